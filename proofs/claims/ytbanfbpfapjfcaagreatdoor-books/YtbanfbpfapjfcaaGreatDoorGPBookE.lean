/-
  copy of elements of several cells; the contract of the book's remove. Conditions: in each statement.
-/
import Derived.Test.YtbanfbpfapjfcaaGreatDoorGPBookC
import Derived.Shelf.Spec.SlicesInsert
import Derived.Deep.RegionLaw
namespace Go.Proofs.YtbanfbpfapjfcaaGreatDoor
open Go.RowKit
set_option maxRecDepth 100000

theorem run_copy_many {P : Program} (w : World) (dT sT ty elem : TypeId) (k b o dLen dCap : Nat) (a : Addr) (sLen sCap : Nat) (cs : List Value)
    (hu : P.underlying dT = some (.slice elem)) (hs : (P.info? elem).map (·.size) = some k) (hn : cs.length = Nat.min sLen dLen * k)
    (hsrc : ∀ j v, cs[j]? = some v → w.cell? (a.add j) = some v) (hc : ∀ j, j < cs.length → (w.cell? ⟨b, o + j, none⟩).isSome = true) (hf : ∀ j, j < cs.length → w.frozen? ⟨b, o + j, none⟩ = false) (h1 : ∀ v ∈ cs, v.oneCell' = true) :
    (Builtin.copy_ #[dT, sT] ty #[.slice (some ⟨b, o, none⟩) dLen dCap, .slice (some a) sLen sCap]).run P w = .ok (goInt (Nat.min sLen dLen)) (w.setCells b o cs) := by
  have hl := run_loadCells_list (P := P) w a cs hsrc
  have hst := run_storeCells_cells (P := P) b o cs 0 w (by simpa using hc) (by simpa using hf) h1
  cases hq : P.info? elem with
  | none => simp [hq] at hs
  | some i =>
    have hi : i.size = k := by simpa [hq] using hs
    simp [Builtin.copy_, run_underlying hu, Builtin.lenOf, Builtin.firstCells, sizeOf, typeInfo, hq, hi, ← hn, hl, hst]
theorem beCells_one (es : List BE) : ∀ v ∈ beCells es, v.oneCell' = true := by
  intro v hv
  simp only [beCells, List.mem_flatten, List.mem_map] at hv
  obtain ⟨l, ⟨e, _, rfl⟩, hv⟩ := hv
  simp only [BE.pcells, List.mem_cons, List.not_mem_nil, or_false] at hv
  rcases hv with rfl | rfl | rfl | rfl | rfl | rfl | rfl | rfl <;> rfl
theorem run_copy_zero {P : Program} (w : World) (dT sT ty elem : TypeId) (k : Nat) (d a : Option Addr) (dLen dCap sLen sCap : Nat) (hu : P.underlying dT = some (.slice elem)) (hs : (P.info? elem).map (·.size) = some k) (hn : Nat.min sLen dLen = 0) :
    (Builtin.copy_ #[dT, sT] ty #[.slice d dLen dCap, .slice a sLen sCap]).run P w = .ok (goInt 0) w := by
  cases hq : P.info? elem with
  | none => simp [hq] at hs
  | some i =>
    have hl : ∀ (x : Addr), (loadCells x 0).run P w = .ok #[] w := fun x => by simpa using run_loadCells_list (P := P) w x [] (by simp)
    cases d <;> cases a <;> simp [Builtin.copy_, run_underlying hu, Builtin.lenOf, Builtin.firstCells, sizeOf, typeInfo, hq, hn, storeCells, hl]
/-- The entries from i on (n of them), to j on. -/
theorem BookAt.copy {w : World} {g o : Nat} {es : List BE} (h : BookAt w g o es) (ty : TypeId) (i j dLen dCap sLen sCap : Nat) (d a : Addr) (hda : 0 < sLen → d = ⟨g, o + j * 8, none⟩ ∧ a = ⟨g, o + i * 8, none⟩) (hs : i + sLen = es.length) (hd : sLen ≤ dLen) (hj : j + sLen ≤ 20) :
    (Builtin.copy_ #[283, 283] ty #[.slice (some d) dLen dCap, .slice (some a) sLen sCap]).run Tryz.prog w = .ok (goInt sLen) (w.setCells g (o + j * 8) (beCells (es.drop i))) := by
  have hlen : (beCells (es.drop i)).length = sLen * 8 := by rw [beCells_length, List.length_drop, ← hs, Nat.add_sub_cancel_left]
  have hm : Nat.min sLen dLen = sLen := Nat.min_eq_left hd
  rcases Nat.eq_zero_or_pos sLen with h0 | h0
  · have e : beCells (es.drop i) = [] := List.eq_nil_of_length_eq_zero (by rw [hlen, h0])
    rw [e, h0]
    exact run_copy_zero (P := Tryz.prog) w 283 283 ty 138 8 (some d) (some a) dLen dCap 0 sCap Tryz.underlying283 Tryz.sizeEntry (Nat.zero_min _)
  obtain ⟨rfl, rfl⟩ := hda h0
  have := run_copy_many (P := Tryz.prog) w 283 283 ty 138 8 g (o + j * 8) dLen dCap ⟨g, o + i * 8, none⟩ sLen sCap (beCells (es.drop i)) Tryz.underlying283 Tryz.sizeEntry (by rw [hm, hlen])
    (fun q v hv => by
      have hq : q < sLen * 8 := by have := (List.getElem?_eq_some_iff.1 hv).1; rwa [hlen] at this
      have e : (beCells es)[i * 8 + q]? = some v := by
        conv => lhs; rw [← List.take_append_drop i es, beCells_append]
        rw [List.getElem?_append_right (by rw [beCells_length, List.length_take]; omega), beCells_length, List.length_take, show i * 8 + q - min i es.length * 8 = q from by rw [Nat.min_eq_left (by omega)]; omega]
        exact hv
      have := h.room _ _ e
      rw [← Nat.add_assoc] at this
      have ha : (⟨g, o + i * 8, none⟩ : Addr).add q = ⟨g, o + i * 8 + q, none⟩ := by unfold Addr.add; split <;> simp_all
      rw [ha]
      exact this)
    (fun q hq => h.live.some _ (by rw [hlen] at hq; omega)) (fun q _ => h.live.frozen _) (beCells_one _)
  rw [hm] at this
  exact this
/-- The room from k on; up to h. -/
theorem room_from (g o k : Nat) (hk : k ≤ 20) : ∃ a : Addr, (∀ w, (Instr.sliceAt 139 (.pointer (some ⟨g, o, none⟩)) (some (.int .i64 (k : Int))) none none).run Tryz.prog w = .ok (.slice (some a) (20 - k) (20 - k)) w) ∧ (k < 20 → a = ⟨g, o + k * 8, none⟩) := by
  refine ⟨if 20 = k then ⟨g, o, none⟩ else (⟨g, o, none⟩ : Addr).add (k * 8), fun w => ?_, fun h => ?_⟩
  · have e := run_sliceAt_array_l (P := Tryz.prog) w 139 ⟨g, o, none⟩ Tryz.underlying139 .i64 (k : Int) (by omega) (by show (k : Int) ≤ 20; omega)
    rw [e]
    rfl
  · rw [if_neg (by omega)]
    unfold Addr.add; split <;> simp_all
theorem room_lh (g o k h : Nat) (hk : k ≤ h) (hh : h ≤ 20) : ∃ a : Addr, (∀ w, (Instr.sliceAt 139 (.pointer (some ⟨g, o, none⟩)) (some (.int .i64 (k : Int))) (some (.int .i64 (h : Int))) none).run Tryz.prog w = .ok (.slice (some a) (h - k) (20 - k)) w) ∧ (k < 20 → a = ⟨g, o + k * 8, none⟩) := by
  refine ⟨if 20 = k then ⟨g, o, none⟩ else (⟨g, o, none⟩ : Addr).add (k * 8), fun w => ?_, fun h => ?_⟩
  · have e := run_sliceAt_array_lh (P := Tryz.prog) w 139 ⟨g, o, none⟩ Tryz.underlying139 .i64 .i64 (k : Int) (h : Int) (by omega) (by omega) (by show (h : Int) ≤ 20; omega)
    rw [e]
    rfl
  · rw [if_neg (by omega)]
    unfold Addr.add; split <;> simp_all
/-- An entry is taken out: what lay behind it has been moved, the count is one less. -/
theorem BookAt.removed {w w2 w4 : World} {g o : Nat} {es : List BE} (h : BookAt w g o es) (i m : Nat) (hm : es.length = m + 1) (hi : i ≤ m) (h2 : w2 = w.setCells g (o + i * 8) (beCells (es.drop (i + 1)))) (f : CF w2 w4 (fun b j => b = g ∧ o + m * 8 ≤ j ∧ j < o + 161)) (hc : w4.cell? ⟨g, o + 160, none⟩ = some (.int .i64 (m : Int))) : BookAt w4 g o (es.take i ++ es.drop (i + 1)) ∧ CF w w4 (exB g o) := by
  have hlen : (beCells (es.drop (i + 1))).length = (m - i) * 8 := by rw [beCells_length, List.length_drop, hm]; congr 1; omega
  have hl20 := h.len
  have f2 : CF w w2 (fun b j => b = g ∧ o + i * 8 ≤ j ∧ j < o + m * 8) := by
    rw [h2]
    exact CF.setCells g _ _ _ (CF.refl _ _) (fun j hj _ => ⟨rfl, by omega, by rw [hlen] at hj; omega⟩)
  have hL : (es.take i ++ es.drop (i + 1)).length = m := by rw [List.length_append, List.length_take, List.length_drop, hm]; omega
  have fA : CF w w4 (exB g o) := (f2.mono (fun b j _ e => ⟨e.1, by omega, by omega⟩)).trans f (fun b j _ e => ⟨e.1, by omega, by omega⟩)
  refine ⟨⟨h.live.cf fA, ?_, ?_, by omega⟩, fA⟩
  · rw [beCells_append]
    intro j u hu
    have hT : (beCells (es.take i)).length = i * 8 := by rw [beCells_length, List.length_take, Nat.min_eq_left (by omega)]
    by_cases hj : j < i * 8
    · rw [List.getElem?_append_left (by rw [hT]; exact hj)] at hu
      have e : (beCells es)[j]? = some u := by
        conv => lhs; rw [← List.take_append_drop i es, beCells_append]
        rw [List.getElem?_append_left (by rw [hT]; exact hj)]
        exact hu
      exact f.cell (f2.cell (h.room j u e) (fun q => by omega)) (fun q => by omega)
    · rw [List.getElem?_append_right (by rw [hT]; omega), hT] at hu
      have hj2 : j - i * 8 < (m - i) * 8 := by have := (List.getElem?_eq_some_iff.1 hu).1; rwa [hlen] at this
      have e := World.cell?_setCells_in g (beCells (es.drop (i + 1))) (o + i * 8) w (fun q hq => h.live.some _ (by rw [hlen] at hq; omega)) (j - i * 8) (by rw [hlen]; exact hj2)
      rw [← h2, show o + i * 8 + (j - i * 8) = o + j from by omega] at e
      rw [List.getElem?_eq_getElem (by rw [hlen]; exact hj2)] at hu
      exact f.cell (e.trans hu) (fun q => by omega)
  · rw [hL]; exact hc
theorem BookAt.removed8 {w w2 : World} {g o : Nat} {es : List BE} (h : BookAt w g o es) (i m : Nat) (hm : es.length = m + 1) (hi : i ≤ m) (h2 : w2 = w.setCells g (o + i * 8) (beCells (es.drop (i + 1)))) {u : Value} (hcnt2 : w2.cell? ⟨g, o + 160, none⟩ = some u) {v0 v1 v2 v3 v4 v5 v6 v7 : Value} :
    BookAt (((((((((w2.setCell ⟨g, o + 160, none⟩ (.int .i64 (m : Int))).setCell ⟨g, o + m * 8, none⟩ v0).setCell ⟨g, o + m * 8 + 1, none⟩ v1).setCell ⟨g, o + m * 8 + 2, none⟩ v2).setCell ⟨g, o + m * 8 + 3, none⟩ v3).setCell ⟨g, o + m * 8 + 4, none⟩ v4).setCell ⟨g, o + m * 8 + 5, none⟩ v5).setCell ⟨g, o + m * 8 + 6, none⟩ v6).setCell ⟨g, o + m * 8 + 7, none⟩ v7) g o (es.take i ++ es.drop (i + 1)) ∧ CF w (((((((((w2.setCell ⟨g, o + 160, none⟩ (.int .i64 (m : Int))).setCell ⟨g, o + m * 8, none⟩ v0).setCell ⟨g, o + m * 8 + 1, none⟩ v1).setCell ⟨g, o + m * 8 + 2, none⟩ v2).setCell ⟨g, o + m * 8 + 3, none⟩ v3).setCell ⟨g, o + m * 8 + 4, none⟩ v4).setCell ⟨g, o + m * 8 + 5, none⟩ v5).setCell ⟨g, o + m * 8 + 6, none⟩ v6).setCell ⟨g, o + m * 8 + 7, none⟩ v7) (exB g o) := by
  have hl20 := h.len
  refine h.removed i m hm hi h2 ?_ ?_
  · exact ((((((((((CF.refl _ _).setCell _ _ _ (fun _ => ⟨rfl, by omega, by omega⟩)).setCell _ _ _ (fun _ => ⟨rfl, by omega, by omega⟩)).setCell _ _ _ (fun _ => ⟨rfl, by omega, by omega⟩)).setCell _ _ _ (fun _ => ⟨rfl, by omega, by omega⟩)).setCell _ _ _ (fun _ => ⟨rfl, by omega, by omega⟩)).setCell _ _ _ (fun _ => ⟨rfl, by omega, by omega⟩)).setCell _ _ _ (fun _ => ⟨rfl, by omega, by omega⟩)).setCell _ _ _ (fun _ => ⟨rfl, by omega, by omega⟩)).setCell _ _ _ (fun _ => ⟨rfl, by omega, by omega⟩))
  · exact set_other _ (set_other _ (set_other _ (set_other _ (set_other _ (set_other _ (set_other _ (set_other _ (set_same _ hcnt2) (by omega)) (by omega)) (by omega)) (by omega)) (by omega)) (by omega)) (by omega)) (by omega)
set_option maxHeartbeats 1000000 in
theorem remove_any (g o : Nat) (es : List BE) (l : List UInt8) (S : ByteArray) (w : World) (h : BookAt w g o es) (hs : es.Pairwise (fun x y => Op.bytesLess x.name y.name = true)) (hS : Hid (S = ⟨l.toArray⟩)) :
    Calls Tryz.prog 144 #[.pointer (some ⟨g, o, none⟩), .string S] w fun e w' =>
      ((BE.at? es l).isSome = false → e = .returned (.int .i64 6) ∧ w.grownBy w' none) ∧ (∀ i, BE.at? es l = some i → e = .returned (.int .i64 0) ∧ BookAt w' g o (es.take i ++ es.drop (i + 1)) ∧ CF w w' (exB g o)) := by
  have HSo := hid hs
  clear hs
  go_enter Tryz.func144, Tryz.ntmps144
  go_wp2_with fail
  refine (place_any g o es l S _ h HSo.out hS).mono ?_
  rintro e w1 ⟨rfl, hg1⟩
  have h1 := h.grown hg1
  cases hat : (BE.at? es l).isSome
  · have HA := hid hat
    go_wp2
    go_ret
    exact ⟨fun _ => ⟨rfl, hg1⟩, fun i q => by have := HA.out; rw [q] at this; cases this⟩
  · obtain ⟨hi, he, hn⟩ := at_ins_some HSo.out l hat
    have HA := hid hat
    obtain ⟨i, HI⟩ : ∃ i, Hid (i = BE.ins es l) := ⟨_, hid rfl⟩
    have hil : i < es.length := by rw [HI.out]; exact hi
    have HE : Hid (BE.at? es l = some i) := by show _ = _; rw [HI.out]; exact he
    have hl20 := h1.len
    obtain ⟨m, HM⟩ : ∃ m, Hid (es.length = m + 1) := ⟨es.length - 1, hid (by omega)⟩
    have hcnt := h1.count
    rw [HM.out] at hcnt hl20 hil
    rw [show ((m + 1 : Nat) : Int) = (m : Int) + 1 from by omega] at hcnt
    have HB := hid h1
    have HG := hid hg1
    rw [← HI.out]
    clear he hn hi hat h h1 hg1
    have hiI : (i : Int) < 20 := by omega
    have hi0 : (0 : Int) ≤ (i : Int) := by omega
    have hmI : (m : Int) < 20 := by omega
    have hm0 : (0 : Int) ≤ (m : Int) := by omega
    have himI : (i : Int) ≤ (m : Int) := by omega
    obtain ⟨d, hd, HD⟩ := room_from g o i (by omega)
    obtain ⟨a, ha, HA2⟩ := room_lh g o (i + 1) (m + 1) (by omega) (by omega)
    have hw : IntKind.i64.wrap ((i : Int) + 1) = (i : Int) + 1 := by rw [IntKind.wrap_i64]; omega
    have hw2 : IntKind.i64.wrap (m : Int) = (m : Int) := by rw [IntKind.wrap_i64]; omega
    have ha' : ∀ w, (Instr.sliceAt 139 (.pointer (some ⟨g, o, none⟩)) (some (.int .i64 ((i : Int) + 1))) (some (.int .i64 ((m : Int) + 1))) none).run Tryz.prog w = .ok (.slice (some a) (m - i) (19 - i)) w := fun w => by
      have := ha w
      rw [show ((i + 1 : Nat) : Int) = (i : Int) + 1 from by omega, show ((m + 1 : Nat) : Int) = (m : Int) + 1 from by omega, show m + 1 - (i + 1) = m - i from by omega, show 20 - (i + 1) = 19 - i from by omega] at this
      exact this
    obtain ⟨w2, HW2⟩ : ∃ w2, Hid (w2 = w1.drew.setCells g (o + i * 8) (beCells (es.drop (i + 1)))) := ⟨_, hid rfl⟩
    have CR := (HB.out.drewN 1).copy 3 (i + 1) i (20 - i) (20 - i) (m - i) (19 - i) d a (fun h0 => ⟨HD (by omega), HA2 (by omega)⟩) (by rw [HM.out]; omega) (by omega) (by omega)
    have CR2 : (Builtin.copy_ #[283, 283] 3 #[.slice (some d) (20 - i) (20 - i), .slice (some a) (m - i) (19 - i)]).run Tryz.prog w1.drew = .ok (.int .i64 ((m - i : Nat) : Int)) w2 := by rw [HW2.out]; exact CR
    have hf2 : CF w1 w2 (fun b j => b = g ∧ o + i * 8 ≤ j ∧ j < o + 160) := by
      rw [HW2.out]
      exact CF.setCells g _ _ _ (CF.refl w1 _).drew (fun j hj _ => ⟨rfl, by omega, by rw [beCells_length, List.length_drop, HM.out] at hj; omega⟩)
    have hcnt2 := hf2.cell hcnt (fun q => by omega)
    have hL2 := HB.out.live.cf hf2
    have fz2 := hL2.frozen (o + 160)
    obtain ⟨c0, p0⟩ := Option.isSome_iff_exists.1 (hL2.some (o + m * 8) (by omega))
    obtain ⟨c1, p1⟩ := Option.isSome_iff_exists.1 (hL2.some (o + m * 8 + 1) (by omega))
    obtain ⟨c2, p2⟩ := Option.isSome_iff_exists.1 (hL2.some (o + m * 8 + 2) (by omega))
    obtain ⟨c3, p3⟩ := Option.isSome_iff_exists.1 (hL2.some (o + m * 8 + 3) (by omega))
    obtain ⟨c4, p4⟩ := Option.isSome_iff_exists.1 (hL2.some (o + m * 8 + 4) (by omega))
    obtain ⟨c5, p5⟩ := Option.isSome_iff_exists.1 (hL2.some (o + m * 8 + 5) (by omega))
    obtain ⟨c6, p6⟩ := Option.isSome_iff_exists.1 (hL2.some (o + m * 8 + 6) (by omega))
    obtain ⟨c7, p7⟩ := Option.isSome_iff_exists.1 (hL2.some (o + m * 8 + 7) (by omega))
    have z0 := hL2.frozen (o + m * 8)
    have z1 := hL2.frozen (o + m * 8 + 1)
    have z2 := hL2.frozen (o + m * 8 + 2)
    have z3 := hL2.frozen (o + m * 8 + 3)
    have z4 := hL2.frozen (o + m * 8 + 4)
    have z5 := hL2.frozen (o + m * 8 + 5)
    have z6 := hL2.frozen (o + m * 8 + 6)
    have z7 := hL2.frozen (o + m * 8 + 7)
    have HDA := hid (And.intro HD HA2)
    clear HD HA2 ha CR hf2 hL2
    go_wp2
    go_region
    go_wp2
    go_region
    go_wp2
    go_ret
    have R := BookAt.removed8 (HB.out.drewN 1) i m HM.out (by omega) HW2.out hcnt2 (v0 := .string ⟨#[]⟩) (v1 := .int .i64 0) (v2 := .int .u64 0) (v3 := .int .u64 0) (v4 := .int .i64 0) (v5 := .int .i64 0) (v6 := .int .i64 0) (v7 := .int .i64 0)
    exact ⟨fun q => absurd (q.symm.trans HA.out) (by simp), fun j q => by have e := HE.out.symm.trans q; injection e with e; subst e; exact ⟨rfl, R.1.drewN 1, (CF.before HG.out R.2.undrewN).drew⟩⟩
end Go.Proofs.YtbanfbpfapjfcaaGreatDoor
