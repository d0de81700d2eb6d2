/-
  The contract of the book's Change. Conditions: in each statement.
  The contract of the desk's Admin. Conditions: in each statement.
  The program's desk in memory; contracts of Count and Left. Conditions: in each statement.
  The contract of the desk's State. Conditions: in each statement.
-/
import Derived.Test.YtbanfbpfapjfcaaGreatDoorGPBookF
import Derived.Test.YtbanfbpfapjfcaaGreatDoorGPBookH
import Derived.Test.YtbanfbpfapjfcaaGreatDoorGLaw2
namespace Go.Proofs.YtbanfbpfapjfcaaGreatDoor
open Go.RowKit
set_option maxRecDepth 100000

theorem admB_add {es : List BE} {a : Adm} (h : a.kind = 1) : admB es a = addB es a := by rw [admB, if_pos h]; rfl
theorem admB_none {es : List BE} {a : Adm} (h : a.kind = 2 ∨ a.kind = 3 ∨ a.kind = 4) (hn : (BE.at? es a.name).isSome = false) : admB es a = (es, 6) := by
  rw [admB, if_neg (by omega), if_pos h]
  cases e : BE.at? es a.name with
  | none => rfl
  | some i => rw [e] at hn; cases hn
theorem admB_del {es : List BE} {a : Adm} (h : a.kind = 2) (i : Nat) (hn : BE.at? es a.name = some i) : admB es a = (es.take i ++ es.drop (i + 1), 0) := by
  rw [admB, if_neg (by omega), if_pos (.inl h)]
  simp only [hn]
  rw [if_pos h]
theorem admB_rekey {es : List BE} {a : Adm} (h : a.kind = 3) (i : Nat) (hi : i < es.length) (hn : BE.at? es a.name = some i) : admB es a = (es.set i (es[i].rekeyed a.key), 0) := by
  rw [admB, if_neg (by omega), if_pos (.inr (.inl h))]
  simp only [hn]
  rw [if_neg (by omega)]
  simp only [List.getElem?_eq_getElem hi]
  rw [if_pos h]
theorem admB_repol {es : List BE} {a : Adm} (h : a.kind = 4) (i : Nat) (hi : i < es.length) (hn : BE.at? es a.name = some i) (hp : a.pol = true) : admB es a = (es.set i (es[i].repol a), 0) := by
  rw [admB, if_neg (by omega), if_pos (.inr (.inr h))]
  simp only [hn]
  rw [if_neg (by omega)]
  simp only [List.getElem?_eq_getElem hi]
  rw [if_neg (by omega), if_neg (by rw [hp]; simp)]
theorem admB_bad {es : List BE} {a : Adm} (h : a.kind = 4) (i : Nat) (hi : i < es.length) (hn : BE.at? es a.name = some i) (hp : a.pol = false) : admB es a = (es, 1) := by
  rw [admB, if_neg (by omega), if_pos (.inr (.inr h))]
  simp only [hn]
  rw [if_neg (by omega)]
  simp only [List.getElem?_eq_getElem hi]
  rw [if_neg (by omega), if_pos hp]
theorem admB_wrong {es : List BE} {a : Adm} (h1 : a.kind ≠ 1) (h2 : a.kind ≠ 2) (h3 : a.kind ≠ 3) (h4 : a.kind ≠ 4) : admB es a = (es, 1) := by
  rw [admB, if_neg h1, if_neg (by omega)]

set_option maxHeartbeats 4000000 in
theorem change_any (g o : Nat) (es : List BE) (a : Adm) (w : World) (h : BookAt w g o es) (hs : es.Pairwise (fun x y => Op.bytesLess x.name y.name = true)) (hnum : ∀ e ∈ es, 1 ≤ e.number ∧ e.number ≤ 4611686018427387904) (hf0 : -9223372036854775808 ≤ a.flags) (hf1 : a.flags ≤ 9223372036854775807) (hl : a.name.length ≤ 9223372036854775807) :
    Calls Tryz.prog 102 #[.pointer (some ⟨g, o, none⟩), .agg a.cells] w fun e w' => e = .returned (.int .i64 (admB es a).2) ∧ BookAt w' g o (admB es a).1 ∧ CF w w' (exB g o) := by
  have HSo := hid hs
  have HNum := hid hnum
  have HAdd := hid (fun w h => add_any g o es a w h hs hf0 hf1 hl)
  have HDel := hid (fun w h => remove_any g o es a.name ⟨a.name.toArray⟩ w h hs (hid rfl))
  have HKey := hid (fun w h => rekey_any g o es a.name ⟨a.name.toArray⟩ a.key w h hs (hid rfl) hnum)
  have HPol := hid (fun w h => repolicy_any g o es a.name ⟨a.name.toArray⟩ a w h hs (hid rfl) hf0 hf1)
  have HPo := hid (fun w => policyOf_any a w)
  have G0 := hid (World.grownBy_alloc w (.cells a.cells 61) none)
  have HB := hid (h.grown G0.out)
  have HA0 := hid (AdmAt.new w a 61)
  have hlt := h.live.lt
  clear h hs hnum hf0 hf1 hl
  by_cases k1 : a.kind = 1
  · have HK := hid k1
    have kb : (a.kind == 1) = true := by rw [k1]; rfl
    clear k1
    go_enter Tryz.func102, Tryz.ntmps102
    go_wp2_with fail
    refine (HAdd.out _ HB.out).mono ?_
    rintro e w1 ⟨rfl, hb1, hc1⟩
    have C := CF.before G0.out hc1
    clear hc1 HAdd HDel HKey HPol HPo
    go_wp2
    go_ret
    exact ⟨by rw [admB_add HK.out]; rfl, by rw [admB_add HK.out]; exact hb1, C⟩
  by_cases k2 : a.kind = 2
  · have HK := hid k2
    have kb : (a.kind == 1) = false := by rw [k2]; rfl
    have kc : (a.kind == 2) = true := by rw [k2]; rfl
    clear k1 k2
    go_enter Tryz.func102, Tryz.ntmps102
    go_wp2_with fail
    refine (HDel.out _ HB.out).mono ?_
    rintro e w1 hp
    have HP := hid hp
    clear hp
    cases hat : BE.at? es a.name with
    | none =>
      have HT : Hid ((BE.at? es a.name).isSome = false) := by show _ = _; rw [hat]; rfl
      obtain ⟨rfl, hg⟩ := HP.out.1 HT.out
      clear HAdd HDel HKey HPol HPo HP hat
      go_wp2
      go_ret
      exact ⟨by rw [admB_none (.inl HK.out) HT.out]; rfl, by rw [admB_none (.inl HK.out) HT.out]; exact HB.out.grown hg, CF.of_gb (gb_trans G0.out hg) _⟩
    | some i =>
      have HT := hid hat
      obtain ⟨rfl, hb1, hc1⟩ := HP.out.2 i HT.out
      clear HAdd HDel HKey HPol HPo HP hat
      go_wp2
      go_ret
      exact ⟨by rw [admB_del HK.out i HT.out]; rfl, by rw [admB_del HK.out i HT.out]; exact hb1, CF.before G0.out hc1⟩
  by_cases k3 : a.kind = 3
  · have HK := hid k3
    have kb : (a.kind == 1) = false := by rw [k3]; rfl
    have kc : (a.kind == 2) = false := by rw [k3]; rfl
    have kd : (a.kind == 3) = true := by rw [k3]; rfl
    clear k1 k2 k3
    go_enter Tryz.func102, Tryz.ntmps102
    go_wp2_with fail
    refine (HKey.out _ HB.out).mono ?_
    rintro e w1 hp
    have HP := hid hp
    clear hp
    cases hat : BE.at? es a.name with
    | none =>
      have HT : Hid ((BE.at? es a.name).isSome = false) := by show _ = _; rw [hat]; rfl
      obtain ⟨rfl, hg⟩ := HP.out.1 HT.out
      clear HAdd HDel HKey HPol HPo HP hat
      go_wp2
      go_ret
      exact ⟨by rw [admB_none (.inr (.inl HK.out)) HT.out]; rfl, by rw [admB_none (.inr (.inl HK.out)) HT.out]; exact HB.out.grown hg, CF.of_gb (gb_trans G0.out hg) _⟩
    | some i =>
      have HT := hid hat
      obtain ⟨hi, _⟩ := at_some hat
      obtain ⟨rfl, hb1, hc1⟩ := HP.out.2 i hi HT.out
      clear HAdd HDel HKey HPol HPo HP hat
      go_wp2
      go_ret
      exact ⟨by rw [admB_rekey HK.out i hi HT.out]; rfl, by rw [admB_rekey HK.out i hi HT.out]; exact hb1, CF.before G0.out hc1⟩
  by_cases k4 : a.kind = 4
  · have HK := hid k4
    have kb : (a.kind == 1) = false := by rw [k4]; rfl
    have kc : (a.kind == 2) = false := by rw [k4]; rfl
    have kd : (a.kind == 3) = false := by rw [k4]; rfl
    have ke : (a.kind == 4) = true := by rw [k4]; rfl
    clear k1 k2 k3 k4
    have HPol2 : Hid (∀ w, BookAt w g o es → Calls Tryz.prog 146 #[.pointer (some ⟨g, o, none⟩), .string ⟨a.name.toArray⟩, .agg (polCells a.life a.renew a.expire a.flags)] w fun e w' => e = .returned (.int .i64 (admB es a).2) ∧ BookAt w' g o (admB es a).1 ∧ CF w w' (exB g o)) := by
      intro w h
      refine (HPol.out w h).mono ?_
      rintro e w' ⟨p1, p2, p3⟩
      cases hat : BE.at? es a.name with
      | none =>
        have ht : (BE.at? es a.name).isSome = false := by rw [hat]; rfl
        obtain ⟨rfl, hg⟩ := p1 ht
        rw [admB_none (.inr (.inr HK.out)) ht]
        exact ⟨rfl, h.grown hg, CF.of_gb hg _⟩
      | some i =>
        obtain ⟨hi, _⟩ := at_some hat
        cases hp : a.pol with
        | false =>
          obtain ⟨rfl, hg⟩ := p2 (by rw [hat]; rfl) hp
          rw [admB_bad HK.out i hi hat hp]
          exact ⟨rfl, h.grown hg, CF.of_gb hg _⟩
        | true =>
          obtain ⟨rfl, hb, hc⟩ := p3 i hi hat hp
          rw [admB_repol HK.out i hi hat hp]
          exact ⟨rfl, hb, hc⟩
    have hne : w.heap.size ≠ g := fun e => by have := hlt; omega
    obtain ⟨c0, c1, c2, c3, c4, c5, c6⟩ := HA0.out
    clear HAdd HDel HKey HPol
    go_enter Tryz.func102, Tryz.ntmps102
    go_wp2_with fail
    go_region_held3 (fun w' => w'.cell? ⟨w.heap.size, 0, none⟩ = some (.int .i64 a.kind) ∧ w'.cell? ⟨w.heap.size, 1, none⟩ = some (.string ⟨a.name.toArray⟩) ∧ w'.cell? ⟨w.heap.size, 2, none⟩ = some (.int .u64 (a.key.toNat : Int)) ∧ w'.cell? ⟨w.heap.size, 3, none⟩ = some (.int .i64 a.life) ∧ w'.cell? ⟨w.heap.size, 4, none⟩ = some (.int .i64 a.renew) ∧ w'.cell? ⟨w.heap.size, 5, none⟩ = some (.int .i64 a.expire) ∧ w'.cell? ⟨w.heap.size, 6, none⟩ = some (.int .i64 a.flags)) (go_keep) (first | (go_at_call 147; refine (HPo.out _).mono ?_; rintro e w5 ⟨rfl, hg5⟩; have G5 := gb_undrew hg5; have B5 := HB.out.grown G5; have d0 := gb_cell G5 c0; have d1 := gb_cell G5 c1; have d2 := gb_cell G5 c2; have d3 := gb_cell G5 c3; have d4 := gb_cell G5 c4; have d5 := gb_cell G5 c5; have d6 := gb_cell G5 c6; clear hg5) | (go_at_call 146; refine (HPol2.out _ B5).mono ?_; rintro e w6 ⟨rfl, b6, C6⟩; have e0 := C6.cell d0 (fun q => hne q.1); have e1 := C6.cell d1 (fun q => hne q.1); have e2 := C6.cell d2 (fun q => hne q.1); have e3 := C6.cell d3 (fun q => hne q.1); have e4 := C6.cell d4 (fun q => hne q.1); have e5 := C6.cell d5 (fun q => hne q.1); have e6 := C6.cell d6 (fun q => hne q.1)))
    go_wp2
    go_ret
    exact ⟨rfl, b6, CF.before (gb_trans G0.out G5) C6⟩
  · have kb : (a.kind == 1) = false := by rw [beq_eq_false_iff_ne]; exact k1
    have kc : (a.kind == 2) = false := by rw [beq_eq_false_iff_ne]; exact k2
    have kd : (a.kind == 3) = false := by rw [beq_eq_false_iff_ne]; exact k3
    have ke : (a.kind == 4) = false := by rw [beq_eq_false_iff_ne]; exact k4
    have HW : Hid (admB es a = (es, 1)) := admB_wrong k1 k2 k3 k4
    clear HAdd HDel HKey HPol HPo k1 k2 k3 k4
    go_enter Tryz.func102, Tryz.ntmps102
    go_wp2
    go_ret
    exact ⟨by rw [HW.out]; rfl, by rw [HW.out]; exact HB.out, CF.of_gb G0.out _⟩
end Go.Proofs.YtbanfbpfapjfcaaGreatDoor
namespace Go.Proofs.YtbanfbpfapjfcaaGreatDoor
open Go.RowKit
set_option maxRecDepth 100000

set_option maxHeartbeats 1000000 in
theorem deskAdmin_any (g o : Nat) (es : List BE) (a : Adm) (w : World) (h : BookAt w g (o + 2) es) (hs : es.Pairwise (fun x y => Op.bytesLess x.name y.name = true)) (hnum : ∀ e ∈ es, 1 ≤ e.number ∧ e.number ≤ 4611686018427387904) (hf0 : -9223372036854775808 ≤ a.flags) (hf1 : a.flags ≤ 9223372036854775807) (hl : a.name.length ≤ 9223372036854775807) :
    Calls Tryz.prog 66 #[.pointer (some ⟨g, o, none⟩), .agg a.cells] w fun e w' => e = .returned (.int .i64 (admB es a).2) ∧ BookAt w' g (o + 2) (admB es a).1 ∧ CF w w' (exB g (o + 2)) := by
  have HCh := hid (fun w h => change_any g (o + 2) es a w h hs hnum hf0 hf1 hl)
  have G0 := hid (World.grownBy_alloc w (.cells a.cells 61) none)
  have HB := hid (h.grown G0.out)
  have hlt := h.live.lt
  have hne : w.heap.size ≠ g := fun e => by omega
  obtain ⟨c0, c1, c2, c3, c4, c5, c6⟩ := AdmAt.new w a 61
  clear h hs hnum hf0 hf1 hl
  go_enter Tryz.func66, Tryz.ntmps66
  go_wp2_with fail
  go_region_held3 (fun w' => w'.cell? ⟨w.heap.size, 0, none⟩ = some (.int .i64 a.kind) ∧ w'.cell? ⟨w.heap.size, 1, none⟩ = some (.string ⟨a.name.toArray⟩) ∧ w'.cell? ⟨w.heap.size, 2, none⟩ = some (.int .u64 (a.key.toNat : Int)) ∧ w'.cell? ⟨w.heap.size, 3, none⟩ = some (.int .i64 a.life) ∧ w'.cell? ⟨w.heap.size, 4, none⟩ = some (.int .i64 a.renew) ∧ w'.cell? ⟨w.heap.size, 5, none⟩ = some (.int .i64 a.expire) ∧ w'.cell? ⟨w.heap.size, 6, none⟩ = some (.int .i64 a.flags)) (go_keep) (first | (go_at_call 102; refine (HCh.out _ (HB.out.drewN 1)).mono ?_; rintro e w6 ⟨rfl, b6, C6⟩; have e0 := C6.undrew.cell c0 (fun q => hne q.1); have e1 := C6.undrew.cell c1 (fun q => hne q.1); have e2 := C6.undrew.cell c2 (fun q => hne q.1); have e3 := C6.undrew.cell c3 (fun q => hne q.1); have e4 := C6.undrew.cell c4 (fun q => hne q.1); have e5 := C6.undrew.cell c5 (fun q => hne q.1); have e6 := C6.undrew.cell c6 (fun q => hne q.1)))
  go_wp2
  go_ret
  exact ⟨rfl, b6, CF.before G0.out C6.undrew⟩
end Go.Proofs.YtbanfbpfapjfcaaGreatDoor
namespace Go.Proofs.YtbanfbpfapjfcaaGreatDoor
open Go.RowKit
set_option maxRecDepth 100000

def PF.pcells (p : PF) : List Value := [.string ⟨p.client.toArray⟩, .int .i64 p.time, .int .i64 p.count]
def pfCells (l : List PF) : List Value := (l.map PF.pcells).flatten
theorem pfCells_length (l : List PF) : (pfCells l).length = l.length * 3 := by
  induction l with
  | nil => rfl
  | cons x l ih => simp only [pfCells, List.map_cons, List.flatten_cons, List.length_append, List.length_cons] at *; rw [ih]; show 3 + _ = _; omega
/-- The desk lies in block g, from o on; its draws lie at dp. -/
structure DeskAt (w : World) (g o : Nat) (dp : Option Pl) (d : DM) : Prop where
  live : Live w g (o + 188)
  skew : w.cell? ⟨g, o, none⟩ = some (.int .i64 d.skew)
  draws : ∃ v, w.cell? ⟨g, o + 1, none⟩ = some v ∧ Out w v dp d.draws
  book : BookAt w g (o + 2) d.book
  proofs : w.rangeAt g (o + 163) (pfCells d.proofs)
  count : w.cell? ⟨g, o + 187, none⟩ = some (.int .i64 d.proofs.length)
  few : d.proofs.length ≤ 8

set_option maxHeartbeats 400000 in
theorem count_any (g o : Nat) (n : Int) (w : World) (h : w.cell? ⟨g, o + 24, none⟩ = some (.int .i64 n)) :
    Calls Tryz.prog 100 #[.pointer (some ⟨g, o, none⟩)] w fun e w' => e = .returned (.int .i64 n) ∧ w' = w := by
  go_enter Tryz.func100, Tryz.ntmps100
  go_wp2
  go_ret
  exact ⟨rfl, rfl⟩
set_option maxHeartbeats 400000 in
theorem left_any (g o : Nat) (a : Option Addr) (n c : Nat) (w : World) (h : w.cell? ⟨g, o, none⟩ = some (.slice a n c)) :
    Calls Tryz.prog 101 #[.pointer (some ⟨g, o, none⟩)] w fun e w' => e = .returned (.int .i64 n) ∧ w' = w := by
  go_enter Tryz.func101, Tryz.ntmps101
  go_wp2
  go_ret
  exact ⟨rfl, rfl⟩
end Go.Proofs.YtbanfbpfapjfcaaGreatDoor
namespace Go.Proofs.YtbanfbpfapjfcaaGreatDoor
open Go.RowKit
set_option maxRecDepth 100000

theorem own_grown {w w' : World} {base : Nat} {e : TypeId} {g n c : Nat} {xs : List Value} (h : w.ownsRow base e 1 (.slice (some ⟨g, 0, none⟩) n c) n xs) (k : w.grownBy w' none) : w'.ownsRow base e 1 (.slice (some ⟨g, 0, none⟩) n c) n xs :=
  own_keep h (fun b hb => k.block b (by injection hb with hb; subst hb; exact (own_there h).1) (by simp))
theorem own_store {w : World} {base b j : Nat} {e : TypeId} {g n c : Nat} {u : Value} {xs : List Value} (h : w.ownsRow base e 1 (.slice (some ⟨g, 0, none⟩) n c) n xs) (hb : b < base) : (w.setCell ⟨b, j, none⟩ u).ownsRow base e 1 (.slice (some ⟨g, 0, none⟩) n c) n xs := by
  have hg : base ≤ g := by
    rcases h.2 with ⟨hv, _⟩ | ⟨g', cap, cur, hv, hb', _⟩
    · cases hv
    · injection hv with e1 _ _
      injection e1 with e1
      injection e1 with e1 _ _
      subst e1
      exact hb'
  exact own_keep h (fun k hk => by injection hk with hk; subst hk; exact Below.heap_setCell w _ u _ (by show g ≠ b; omega))
theorem range4 {w : World} {g a : Nat} {c0 c1 c2 c3 : Value} (h0 : w.cell? ⟨g, a, none⟩ = some c0) (h1 : w.cell? ⟨g, a + 1, none⟩ = some c1) (h2 : w.cell? ⟨g, a + 2, none⟩ = some c2) (h3 : w.cell? ⟨g, a + 3, none⟩ = some c3) : w.rangeAt g a [c0, c1, c2, c3] := by
  intro j u hu
  match j, hu with
  | 0, hu => injection hu with hu; subst hu; exact h0
  | 1, hu => injection hu with hu; subst hu; exact h1
  | 2, hu => injection hu with hu; subst hu; exact h2
  | 3, hu => injection hu with hu; subst hu; exact h3
  | j + 4, hu => simp at hu
theorem fourSet (w : World) (b : Nat) (v0 v1 v2 v3 : Value) {d0 d1 d2 d3 : Value} (q0 : w.cell? ⟨b, 0, none⟩ = some d0) (q1 : w.cell? ⟨b, 1, none⟩ = some d1) (q2 : w.cell? ⟨b, 2, none⟩ = some d2) (q3 : w.cell? ⟨b, 3, none⟩ = some d3) :
    ((((w.setCell ⟨b, 0, none⟩ v0).setCell ⟨b, 1, none⟩ v1).setCell ⟨b, 2, none⟩ v2).setCell ⟨b, 3, none⟩ v3).rangeAt b 0 [v0, v1, v2, v3] := by
  refine range4 ?_ ?_ ?_ ?_ <;> try simp only [Nat.zero_add]
  · exact set_other _ (set_other _ (set_other _ (set_same _ q0) (by decide)) (by decide)) (by decide)
  · exact set_other _ (set_other _ (set_same _ (set_other _ q1 (by decide))) (by decide)) (by decide)
  · exact set_other _ (set_same _ (set_other _ (set_other _ q2 (by decide)) (by decide))) (by decide)
  · exact set_same _ (set_other _ (set_other _ (set_other _ q3 (by decide)) (by decide)) (by decide))
theorem results_onecell {fn : Func} {a : Tmp} {ty : TypeId} (h : fn.results = #[.cell a ty]) (tmps : Array Value) (P : Program) (w : World) (b : Nat) (hp : tmps.getD a undef = .pointer (some ⟨b, 0, none⟩)) (x : Value) (hl : (loadVar ty ⟨b, 0, none⟩).run P w = .ok x w) :
    (results fn tmps).run P w = .ok x w := by
  have hp' : tmps[a]?.getD undef = .pointer (some ⟨b, 0, none⟩) := by simpa using hp
  simp [results, h, hp', hl, asAddr]
theorem Tryz.sizeState : (Tryz.prog.info? 53).map (·.size) = some 4 := by kernel_rfl
theorem DeskAt.cf {w w' : World} {ex : Nat → Nat → Prop} {g o : Nat} {dp : Option Pl} {d : DM} (h : DeskAt w g o dp d) (k : CF w w' ex) (hx : ∀ j, o ≤ j → j < o + 188 → ¬ ex g j) (hd : ∀ q, dp = some q → ∀ j, j < d.draws.length → ¬ ex q.g (q.off + j)) : DeskAt w' g o dp d := by
  obtain ⟨v, hv, ho⟩ := h.draws
  exact ⟨h.live.cf k, k.cell h.skew (hx _ (by omega) (by omega)), ⟨v, k.cell hv (hx _ (by omega) (by omega)), ho.cf k hd⟩, h.book.cf k (fun j h1 h2 => hx j (by omega) (by omega)), k.range h.proofs (fun j hj => hx _ (by omega) (by rw [pfCells_length] at hj; have := h.few; omega)), k.cell h.count (hx _ (by omega) (by omega)), h.few⟩
theorem DeskAt.grown {w w' : World} {g o : Nat} {dp : Option Pl} {d : DM} (h : DeskAt w g o dp d) (k : w.grownBy w' none) : DeskAt w' g o dp d := h.cf (CF.of_gb k (fun _ _ => False)) (fun _ _ _ e => e) (fun _ _ _ _ e => e)

set_option maxHeartbeats 4000000 in
theorem deskState_any (g o : Nat) (dp : Option Pl) (d : DM) (w : World) (h : DeskAt w g o dp d) :
    Calls Tryz.prog 64 #[.pointer (some ⟨g, o, none⟩)] w fun e w' => ∃ bn bu, e = .returned (.agg #[.slice (some ⟨bn, 0, none⟩) d.book.length d.book.length, .slice (some ⟨bu, 0, none⟩) d.book.length d.book.length, .int .i64 d.proofs.length, .int .i64 d.draws.length]) ∧ w'.ownsRow w.heap.size 9 1 (.slice (some ⟨bn, 0, none⟩) d.book.length d.book.length) d.book.length (d.book.map fun x => .string ⟨x.name.toArray⟩) ∧ w'.ownsRow w.heap.size 3 1 (.slice (some ⟨bu, 0, none⟩) d.book.length d.book.length) d.book.length (d.book.map fun x => .int .i64 x.number) ∧ w.grownBy w' none := by
  have G0 := gb_drew (World.grownBy_alloc w (.cells #[.slice none 0 0, .slice none 0 0, .int .i64 0, .int .i64 0] 53) none)
  have HD := hid (fun wx (k : World.grownBy (w.alloc (.cells #[.slice none 0 0, .slice none 0 0, .int .i64 0, .int .i64 0] 53)).drew wx none) => (h.grown G0).grown k)
  have HL : Hid (Live (w.alloc (.cells #[.slice none 0 0, .slice none 0 0, .int .i64 0, .int .i64 0] 53)).drew w.heap.size 4) := (Live.new w _ _).drew
  have HG := hid G0
  obtain ⟨v, hv, ho⟩ := h.draws
  obtain ⟨da, dc, rfl, _⟩ := ho.shape
  have HV := hid (fun wx (k : World.grownBy (w.alloc (.cells #[.slice none 0 0, .slice none 0 0, .int .i64 0, .int .i64 0] 53)).drew wx none) => gb_cell k (gb_cell G0 hv))
  clear h G0 hv ho
  go_enter Tryz.func64, Tryz.ntmps64
  go_wp2_with fail
  go_region_held3 (fun _ => True) (trivial) (first | (go_at_call 98; refine (names_any g (o + 2) d.book _ (HD.out _ (World.grownBy.refl _ _)).book).mono ?_; rintro e wN ⟨bn, rfl, oN, gN⟩) | (go_at_call 99; refine (numbers_any g (o + 2) d.book _ (HD.out _ gN).book).mono ?_; rintro e wU ⟨bu, rfl, oU, gU⟩; have GU := gb_trans gN gU) | (go_at_call 100; refine (count_any g (o + 163) d.proofs.length _ (HD.out _ GU).count).mono ?_; rintro e wx ⟨rfl, rfl⟩; have L := HL.out.grown GU; obtain ⟨d0, q0⟩ := Option.isSome_iff_exists.1 (L.some 0 (by decide)); obtain ⟨d1, q1⟩ := Option.isSome_iff_exists.1 (L.some 1 (by decide)); obtain ⟨d2, q2⟩ := Option.isSome_iff_exists.1 (L.some 2 (by decide)); obtain ⟨d3, q3⟩ := Option.isSome_iff_exists.1 (L.some 3 (by decide)); have f0 := L.frozen 0; have f1 := L.frozen 1; have f2 := L.frozen 2; have f3 := L.frozen 3) | (go_at_call 101; refine (left_any g (o + 1) da d.draws.length dc _ (HV.out _ GU)).mono ?_; rintro e wx ⟨rfl, rfl⟩))
  go_wp2
  have s0 : w.heap.size < w.heap.size + 1 := Nat.lt_succ_self _
  have oN1 : wx.ownsRow (w.heap.size + 1) 9 1 (.slice (some ⟨bn, 0, none⟩) d.book.length d.book.length) d.book.length (d.book.map fun x => .string ⟨x.name.toArray⟩) := own_base (own_grown oN gU) (by show w.heap.size + 1 ≤ (w.alloc _).heap.size; rw [World.size_alloc]; exact Nat.le_refl _)
  have oU1 : wx.ownsRow (w.heap.size + 1) 3 1 (.slice (some ⟨bu, 0, none⟩) d.book.length d.book.length) d.book.length (d.book.map fun x => .int .i64 x.number) := own_base oU (by have h1 := gN.size; have h2 : w.heap.size + 1 ≤ (w.alloc (.cells #[.slice none 0 0, .slice none 0 0, .int .i64 0, .int .i64 0] 53)).heap.size := (by rw [World.size_alloc]; exact Nat.le_refl _); exact Nat.le_trans h2 h1)
  refine bodyPost_ret (results_onecell Tryz.results64 _ _ _ w.heap.size rfl _ (load_of (fourSet wx w.heap.size _ _ _ _ q0 q1 q2 q3) 53 _ Tryz.underlying53 rfl Tryz.sizeState)) rfl ⟨bn, bu, rfl, ?_, ?_, ?_⟩
  · exact own_base (own_store (own_store (own_store (own_store oN1 s0) s0) s0) s0) (Nat.le_succ _)
  · exact own_base (own_store (own_store (own_store (own_store oU1 s0) s0) s0) s0) (Nat.le_succ _)
  · exact gb_store (gb_store (gb_store (gb_store (gb_trans HG.out GU) (Nat.le_refl _)) (Nat.le_refl _)) (Nat.le_refl _)) (Nat.le_refl _)
end Go.Proofs.YtbanfbpfapjfcaaGreatDoor
