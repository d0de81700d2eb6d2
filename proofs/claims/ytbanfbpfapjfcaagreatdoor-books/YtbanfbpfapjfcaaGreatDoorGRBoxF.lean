/-
  Contract of the document's first: the first box of some bytes, in the words of Box.cut. Conditions: in the statement.
-/
import Derived.Test.YtbanfbpfapjfcaaGreatDoorGRBoxA
import Derived.Test.YtbanfbpfapjfcaaGreatDoorGBoxA
import Derived.Test.YtbanfbpfapjfcaaGreatDoorGBlk
import Derived.Deep.RegionLaw
import Derived.Deep.DeepCutAuto
namespace Go.Proofs.YtbanfbpfapjfcaaGreatDoor
open Go.RowKit
set_option maxRecDepth 100000

abbrev zeroP : Array Value := #[.int .u8 0, .slice none 0 0]
theorem pieceLoad {w : World} {g : Nat} {x y : Value} (h : Blk w g #[x, y]) : (loadVar 217 ⟨g, 0, none⟩).run Tryz.prog w = .ok (.agg #[x, y]) w :=
  h.load 217 _ Tryz.underlying217 rfl (by kernel_rfl)

set_option maxHeartbeats 1000000 in
theorem first_short (n : Nat) (ao : Option Addr) (cap : Nat) (w : World) (h : n < 2) :
    Calls Tryz.prog 106 #[.slice ao n cap] w fun e w' => e = .returned (.tuple #[.agg zeroP, .slice none 0 0, .bool false]) ∧ w.grownBy w' none := by
  have h' : (n : Int) < 2 := by omega
  go_enter Tryz.func106, Tryz.ntmps106
  go_wp2
  (try simp only [Exit.inBlock, Exit.then])
  refine bodyPost_ret (results_cell3 rfl _ _ _ w.heap.size rfl (.agg zeroP) (pieceLoad ?_)) rfl ?_
  · exact (Blk.new w _ _).alloc _
  · exact ⟨rfl, gb_alloc (World.grownBy_alloc w _ none) _⟩

theorem lead_head (zs : List UInt8) : 2 ≤ (Box.lead zs).2 ∧ (Box.lead zs).2 ≤ 4 ∧ (Box.lead zs).1 ≤ 65535 := by
  have h1 := (zs.getD 1 0).toNat_lt
  have h2 := (zs.getD 2 0).toNat_lt
  have h3 := (zs.getD 3 0).toNat_lt
  unfold Box.lead
  split
  · exact ⟨by show 2 ≤ 3; omega, by show 3 ≤ 4; omega, by show (zs.getD 2 0).toNat ≤ 65535; omega⟩
  · split
    · exact ⟨by show 2 ≤ 4; omega, by show 4 ≤ 4; omega, by show (zs.getD 2 0).toNat * 256 + (zs.getD 3 0).toNat ≤ 65535; omega⟩
    · exact ⟨by show 2 ≤ 2; omega, by show 2 ≤ 4; omega, by show (zs.getD 1 0).toNat ≤ 65535; omega⟩

theorem getD_at {zs : List UInt8} {j : Nat} (h : j < zs.length) : zs.getD j 0 = zs[j] := by simp [List.getD, List.getElem?_eq_getElem h]
theorem at_got {w : World} {b off : Nat} {zs : List UInt8} (h : At w (some ⟨b, off, none⟩) zs) (j : Nat) (hj : j < zs.length) : w.cell? ⟨b, off + j, none⟩ = some (.int .u8 ((zs.getD j 0).toNat : Int)) := by
  rw [getD_at hj]
  exact h.cells j hj
theorem blk_set2 {w : World} {g : Nat} {a b : Value} (h : Blk w g #[a, b]) (x y : Value) : Blk ((w.setCell ⟨g, 0, none⟩ x).setCell ⟨g, 1, none⟩ y) g #[x, y] := by
  simpa using (h.set 0 x).set 1 y
theorem slice_lh2 {P : Program} (t e : TypeId) (i : TypeInfo) (ht : P.underlying t = some (.slice e)) (hi : P.info? e = some i) (hs : i.size = 1) (p : Addr) (n cap : Nat) {zs : List UInt8} (hz : Hid (zs.length = n)) (hc : n ≤ cap) (l h : Nat) (x y : Int) (hx : x = (l : Int)) (hy : y = (h : Int)) (hl : l ≤ h) (hh : h ≤ n) : ∃ q : Addr, (∀ w, (Instr.sliceAt t (.slice (some p) n cap) (some (.int .i64 x)) (some (.int .i64 y)) none).run P w = .ok (.slice (some q) (h - l) (cap - l)) w) ∧ ∀ w, At w (some p) zs → At w (some q) ((zs.drop l).take (h - l)) := by
  subst hx hy
  obtain ⟨q, hq⟩ : ∃ q, sl (some p) cap l = some q := by
    unfold sl
    split
    · exact ⟨_, rfl⟩
    · exact ⟨_, rfl⟩
  refine ⟨q, fun w => ?_, fun w hat => by rw [← hq]; exact hat.sub cap l _ (by rw [hz.out]; exact hc)⟩
  rw [← hq]
  have he : P.elem t = e := by simp [Program.elem, ht]
  have ht' : P.underlying t = some (.slice (P.elem t)) := by rw [he]; exact ht
  rw [run_sliceAt_slice w t _ _ _ _ ht', run_slice_lh w t _ n cap ht' .i64 .i64 (l : Int) (h : Int) (by omega) (by omega) (by omega), he]
  simp [sizeOf, typeInfo, hi, hs, sliced, sl]
abbrev two0 (w : World) : World := (w.alloc (.cells zeroP 217)).alloc (.cells zeroP 217)

set_option maxHeartbeats 4000000 in
theorem first_any (zs : List UInt8) (n : Nat) (b off : Nat) (cap : Nat) (w : World) (hn : Hid (zs.length = n)) (h2 : 2 ≤ n) (hl : n ≤ 140737488355328) (hcap : n ≤ cap) (hcm : cap ≤ 9223372036854775807) (hc : At w (some ⟨b, off, none⟩) zs) :
    Calls Tryz.prog 106 #[.slice (some ⟨b, off, none⟩) n cap] w fun e w' =>
      (∀ tag i r, Box.cut zs = some (tag, i, r) → ∃ a1 c1 a2 c2, e = .returned (.tuple #[.agg #[.int .u8 (tag.toNat : Int), .slice a1 i.length c1], .slice a2 r.length c2, .bool true]) ∧ (∀ w0, At w0 (some ⟨b, off, none⟩) zs → At w0 a1 i) ∧ i.length ≤ c1 ∧ c1 ≤ cap ∧ (∀ w0, At w0 (some ⟨b, off, none⟩) zs → At w0 a2 r) ∧ r.length ≤ c2 ∧ c2 ≤ cap) ∧
      (Box.cut zs = none → ∃ (x : Int) (a : Option Addr) (k c : Nat), e = .returned (.tuple #[.agg #[.int .u8 x, .slice a k c], .slice none 0 0, .bool false])) ∧ w.grownBy w' none := by
  obtain ⟨hb2, hb4, hbk⟩ := lead_head zs
  have HL : Hid (Box.lead zs = if (zs.getD 1 0).toNat = 129 ∧ 2 < n then ((zs.getD 2 0).toNat, 3)
    else if (zs.getD 1 0).toNat = 130 ∧ 3 < n then ((zs.getD 2 0).toNat * 256 + (zs.getD 3 0).toNat, 4) else ((zs.getD 1 0).toNat, 2)) := by
    show _ = _
    rw [Box.lead, hn.out]
  have HA : Hid (Box.cut zs = Box.again zs) := (Box.cut_again zs).symm
  unfold Box.again at HA
  rw [hn.out] at HA
  obtain ⟨k, hd, HK⟩ : ∃ k hd, Hid (Box.lead zs = (k, hd)) := ⟨_, _, rfl⟩
  rw [HK.out] at HA HL hb2 hb4 hbk
  simp only at HA hb2 hb4 hbk
  have h2' : ¬ (n : Int) < 2 := by omega
  have hp1 : (1 : Int) < (n : Int) := by omega
  have hp0 : (0 : Int) < (n : Int) := by omega
  have G0 : w.grownBy (two0 w) none := gb_alloc (World.grownBy_alloc w _ none) _
  have hcw := hc.below G0
  have hc0 := at_got hcw 0 (by rw [hn.out]; omega)
  have hc1 := at_got hcw 1 (by rw [hn.out]; omega)
  have hc2 : 2 < n → (two0 w).cell? ⟨b, off + 2, none⟩ = some (.int .u8 ((zs.getD 2 0).toNat : Int)) := fun h => at_got hcw 2 (by rw [hn.out]; exact h)
  have hc3 : 3 < n → (two0 w).cell? ⟨b, off + 3, none⟩ = some (.int .u8 ((zs.getD 3 0).toNat : Int)) := fun h => at_got hcw 3 (by rw [hn.out]; exact h)
  rw [Nat.add_zero] at hc0
  have t1 := (zs.getD 1 0).toNat_lt
  have t2 := (zs.getD 2 0).toNat_lt
  have t3 := (zs.getD 3 0).toNat_lt
  generalize hz1 : (zs.getD 1 0).toNat = z1 at *
  generalize hz2 : (zs.getD 2 0).toNat = z2 at *
  generalize hz3 : (zs.getD 3 0).toNat = z3 at *
  clear hz1 hz2 hz3
  have hcc := hc
  clear hc hcw
  go_enter Tryz.func106, Tryz.ntmps106
  go_upto_region 6 with fail
  go_cut [23] (fun c wx => c = .bool (decide (z1 = 129 ∧ 2 < n)) ∧ wx = two0 w)
  case first =>
    by_cases h129 : z1 = 129
    · have hb : ((z1 : Int) == 129) = true := by rw [beq_iff_eq]; omega
      by_cases hn2 : 2 < n
      · have hn2' : (2 : Int) < (n : Int) := by omega
        have hD : decide (z1 = 129 ∧ 2 < n) = true := decide_eq_true ⟨h129, hn2⟩
        clear h129
        go_wp2
        go_meet
        case rel => exact ⟨by rw [hD], rfl⟩
      · have hn2' : ¬ (2 : Int) < (n : Int) := by omega
        have hD : decide (z1 = 129 ∧ 2 < n) = false := decide_eq_false (fun h => hn2 h.2)
        clear h129
        go_wp2
        go_meet
        case rel => exact ⟨by rw [hD], rfl⟩
    · have hb : ((z1 : Int) == 129) = false := by rw [beq_eq_false_iff_ne]; omega
      have hD : decide (z1 = 129 ∧ 2 < n) = false := decide_eq_false (fun h => h129 h.1)
      clear h129
      go_wp2
      go_meet
      case rel => exact ⟨by rw [hD], rfl⟩
  case rest =>
    obtain ⟨rfl, rfl⟩ := hcut
    go_upto_if 23 with fail
    go_cut [6, 7] (fun s6 s7 wx => s6 = .int .i64 k ∧ s7 = .int .i64 hd ∧ ∃ m, wx = (two0 w).drewN m)
    case first =>
      by_cases hA : z1 = 129 ∧ 2 < n
      · have hD : decide (z1 = 129 ∧ 2 < n) = true := decide_eq_true hA
        have hE := HL.out
        rw [if_pos hA] at hE
        obtain ⟨rfl, rfl⟩ := Prod.mk.inj hE
        have hx2 := hc2 hA.2
        have hn2 : (2 : Int) < (n : Int) := by omega
        rw [hD]
        clear hE hA
        go_wp2
        go_meet
        case rel => exact ⟨rfl, rfl, 0, rfl⟩
      · have hD : decide (z1 = 129 ∧ 2 < n) = false := decide_eq_false hA
        have hE := HL.out
        rw [if_neg hA] at hE
        rw [hD]
        by_cases h130 : z1 = 130
        · have hb : ((z1 : Int) == 130) = true := by rw [beq_iff_eq]; omega
          by_cases hn3 : 3 < n
          · rw [if_pos ⟨h130, hn3⟩] at hE
            obtain ⟨rfl, rfl⟩ := Prod.mk.inj hE
            have hx2 := hc2 (by omega)
            have hx3 := hc3 hn3
            have hn3' : (3 : Int) < (n : Int) := by omega
            have hn2' : (2 : Int) < (n : Int) := by omega
            clear hE hA h130
            go_wp2_with fail
            go_quiet (fail)
            go_wp2
            go_meet
            case rel => exact ⟨by go_num, rfl, _, rfl⟩
          · rw [if_neg (fun h => hn3 h.2)] at hE
            obtain ⟨rfl, rfl⟩ := Prod.mk.inj hE
            have hn3' : ¬ (3 : Int) < (n : Int) := by omega
            clear hE hA h130
            go_wp2
            go_meet
            case rel => exact ⟨rfl, rfl, 0, rfl⟩
        · have hb : ((z1 : Int) == 130) = false := by rw [beq_eq_false_iff_ne]; omega
          rw [if_neg (fun h => h130 h.1)] at hE
          obtain ⟨rfl, rfl⟩ := Prod.mk.inj hE
          clear hE hA h130
          go_wp2
          go_meet
          case rel => exact ⟨rfl, rfl, 0, rfl⟩
    case rest =>
      obtain ⟨rfl, rfl, m, rfl⟩ := hcut
      clear HL hc1 hc2 hc3 t1 t2 t3
      by_cases hk : hd + k ≤ n
      · have hk1 : ¬ (n : Int) < (hd : Int) + (k : Int) := by omega
        obtain ⟨i0, hi, _, hs1, _⟩ := info_parts Tryz.info5
        obtain ⟨a1, e1, hat1⟩ := slice_lh2 32 5 i0 Tryz.underlying32 hi hs1 ⟨b, off, none⟩ n cap hn hcap hd (hd + k) (hd : Int) ((hd : Int) + (k : Int)) rfl (by omega) (by omega) hk
        obtain ⟨a2, e2, hat2⟩ := slice_to 32 5 i0 Tryz.underlying32 hi hs1 (some ⟨b, off, none⟩) n cap hn hcap (hd + k) ((hd : Int) + (k : Int)) (by omega) hk
        obtain ⟨a3, e3, hat3⟩ := slice_from 32 5 i0 Tryz.underlying32 hi hs1 (some ⟨b, off, none⟩) n cap hn hcap (hd + k) ((hd : Int) + (k : Int)) (by omega) hk
        rw [show hd + k - hd = k from by omega] at e1 hat1
        obtain ⟨tag, HT⟩ : ∃ t, Hid (zs.getD 0 0 = t) := ⟨_, rfl⟩
        rw [HT.out] at HA hc0
        obtain ⟨ins, HI⟩ : ∃ t, Hid ((zs.drop hd).take k = t) := ⟨_, rfl⟩
        obtain ⟨all, HW⟩ : ∃ t, Hid (zs.take (hd + k) = t) := ⟨_, rfl⟩
        have hIL : Hid (ins.length = k) := by show _ = _; rw [← HI.out, List.length_take, List.length_drop, hn.out]; omega
        have hWL : Hid (all.length = hd + k) := by show _ = _; rw [← HW.out, List.length_take, hn.out]; omega
        rw [HI.out] at hat1 HA
        rw [HW.out] at hat2 HA
        have hBL : Hid ((Box.box tag ins).length ≤ 140737488355328) := by show _ ≤ _; rw [Box.box_length, hIL.out]; split <;> (try split) <;> omega
        have hc0' : ((two0 w).drewN m).cell? ⟨b, off, none⟩ = some (.int .u8 (tag.toNat : Int)) := hc0
        go_wp2_with fail
        have hP0 := blk_set2 ((Blk.new (w.alloc (.cells zeroP 217)) zeroP 217).drewN m) (.int .u8 (tag.toNat : Int)) (.slice (some a1) k (cap - hd))
        rw [World.size_alloc] at hP0
        have hR0 := ((((Blk.new w zeroP 217).alloc (.cells zeroP 217)).drewN m).other ⟨w.heap.size + 1, 0, none⟩ (.int .u8 (tag.toNat : Int)) (by show w.heap.size ≠ w.heap.size + 1; omega)).other ⟨w.heap.size + 1, 1, none⟩ (.slice (some a1) k (cap - hd)) (by show w.heap.size ≠ w.heap.size + 1; omega)
        have G1 := gb_store (j := 1) (u := .slice (some a1) k (cap - hd)) (gb_store (g := w.heap.size + 1) (j := 0) (u := .int .u8 (tag.toNat : Int)) (gb_drewN G0 m) (by omega)) (show w.heap.size ≤ w.heap.size + 1 by omega)
        refine (rbox_any tag ins k (some a1) (cap - hd) _ hIL (by omega) (hid (fun h => by cases h)) (hat1 _ (hcc.below G1))).mono ?_
        rintro e w1 ⟨o, rfl, hown1, hg1⟩
        obtain ⟨a4, c4, rfl, _, _, _, hat4⟩ := own_at2 hown1
        have hP1 := hP0.grown hg1 (by simp)
        have hR1 := hR0.grown hg1 (by simp)
        have G2 := gb_trans G1 hg1
        have hatW := hat2 _ (hcc.below G2)
        have hSame := rsame_any (Box.box tag ins) all _ _ a4 a2 c4 cap w1 (hid rfl) hWL hBL.out hat4 hatW
        clear hown1 hg1 hP0 hR0 G1 hc0 hc0'
        go_wp2_with fail
        refine hSame.mono ?_
        rintro e w2 ⟨rfl, hg2⟩
        have hP2 := hP1.grown hg2 (by simp)
        have hR2 := hR1.grown hg2 (by simp)
        have G3 := gb_trans G2 hg2
        clear hSame hg2 hP1 hR1 G2 hatW
        have p0 := hP2.cell 0
        have p1 := hP2.cell 1
        have r0 := hR2.cell 0
        have r1 := hR2.cell 1
        have r2 := hR2.frozen 0
        have r3 := hR2.frozen 1
        simp only [List.getElem?_toArray, List.getElem?_cons_zero, List.getElem?_cons_succ] at p0 p1 r0 r1
        by_cases hq : Box.box tag ins = all
        · have hq' : (Box.box tag ins == all) = true := by rw [beq_iff_eq]; exact hq
          rw [hq']
          have HY : Hid (Box.cut zs = some (tag, ins, zs.drop (hd + k))) := by show _ = _; rw [HA.out, if_pos ⟨h2, hk, hq⟩]
          clear hq hq'
          go_wp2_with fail
          go_region
          go_wp2
          (try simp only [Exit.inBlock, Exit.then])
          refine bodyPost_ret (results_cell3 rfl _ _ _ w.heap.size rfl _ (pieceLoad (blk_set2 hR2 _ _).drew)) rfl ?_
          refine ⟨fun tag' i r h => ?_, (fun h => by rw [HY.out] at h; simp at h), gb_drew (gb_store (gb_store G3 (Nat.le_refl _)) (Nat.le_refl _))⟩
          rw [HY.out] at h
          simp only [Option.some.injEq, Prod.mk.injEq] at h
          obtain ⟨rfl, rfl, rfl⟩ := h
          refine ⟨some a1, cap - hd, a3, cap - (hd + k), ?_, hat1, by rw [hIL.out]; omega, by omega, hat3, by rw [List.length_drop, hn.out]; omega, by omega⟩
          rw [hIL.out, List.length_drop, hn.out]
          rfl
        · have hq' : (Box.box tag ins == all) = false := by rw [beq_eq_false_iff_ne]; exact hq
          rw [hq']
          have HY : Hid (Box.cut zs = none) := by show _ = _; rw [HA.out, if_neg (fun h => hq h.2.2)]
          clear hq hq'
          go_wp2
          (try simp only [Exit.inBlock, Exit.then])
          refine bodyPost_ret (results_cell3 rfl _ _ _ w.heap.size rfl _ (pieceLoad (blk_set2 hR2 _ _))) rfl ?_
          exact ⟨fun tag i r h => by rw [HY.out] at h; simp at h, fun _ => ⟨_, _, _, _, rfl⟩, gb_store (gb_store G3 (Nat.le_refl _)) (Nat.le_refl _)⟩
      · have hk1 : (n : Int) < (hd : Int) + (k : Int) := by omega
        have HN : Hid (Box.cut zs = none) := by show _ = _; rw [HA.out, if_neg (fun h => hk h.2.1)]
        go_wp2
        (try simp only [Exit.inBlock, Exit.then])
        refine bodyPost_ret (results_cell3 rfl _ _ _ w.heap.size rfl (.agg zeroP) (pieceLoad ?_)) rfl ?_
        · exact blk_set2 (((Blk.new w _ _).alloc _).drewN _) _ _
        · exact ⟨fun tag i r h => by rw [HN.out] at h; simp at h, fun _ => ⟨_, _, _, _, rfl⟩, gb_store (gb_store (gb_drewN G0 _) (Nat.le_refl _)) (Nat.le_refl _)⟩
end Go.Proofs.YtbanfbpfapjfcaaGreatDoor
