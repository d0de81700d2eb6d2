/-
  The contract of read at texts. Conditions: in the statement.
-/
import Derived.Test.YtbanfbpfapjfcaaDoorKReadB
namespace Go.Proofs.YtbanfbpfapjfcaaDoor
open Go.RowKit
set_option maxRecDepth 100000

theorem hex_at (l : List UInt8) : ∀ (j : Nat) (hj : j < l.length), (Box.hex l)[2 * j]? = some (Box.dig (l[j].toNat / 16)) ∧ (Box.hex l)[2 * j + 1]? = some (Box.dig (l[j].toNat % 16)) := by
  induction l with
  | nil => intro j hj; simp at hj
  | cons x l ih =>
    intro j hj
    have e : Box.hex (x :: l) = Box.dig (x.toNat / 16) :: Box.dig (x.toNat % 16) :: Box.hex l := rfl
    rw [e]
    cases j with
    | zero => exact ⟨rfl, rfl⟩
    | succ j =>
      have := ih j (by simpa using hj)
      rw [show 2 * (j + 1) = 2 * j + 2 from by omega]
      exact this
theorem at_of_drop {L x : List UInt8} {i k : Nat} {z : UInt8} (h : L.drop i = x) (hz : x[k]? = some z) : L.getD (i + k) 0 = z := by
  have : (L.drop i)[k]? = some z := by rw [h]; exact hz
  rw [List.getElem?_drop] at this
  simp [List.getD, this]

theorem at_set4 {w : World} {a : Option Addr} {zs : List UInt8} {g : Nat} (h : At w a zs) (hne : ∀ b off, a = some ⟨b, off, none⟩ → b ≠ g) (x y z u : Value) : At ((((w.setCell ⟨g, 0, none⟩ x).setCell ⟨g, 1, none⟩ y).setCell ⟨g, 2, none⟩ z).setCell ⟨g, 3, none⟩ u) a zs := by
  intro j hj
  obtain ⟨b, off, e1, e2⟩ := h j hj
  have hb := hne b off e1
  refine ⟨b, off, e1, ?_⟩
  rw [cell_kept (Below.heap_setCell _ _ _ _ hb), cell_kept (Below.heap_setCell _ _ _ _ hb), cell_kept (Below.heap_setCell _ _ _ _ hb), cell_kept (Below.heap_setCell _ _ _ _ hb)]
  exact e2
theorem wrap8' (z : UInt8) : IntKind.u8.wrap (z.toNat : Int) = (z.toNat : Int) := by
  have := z.toNat_lt
  simp [IntKind.wrap, IntKind.bits, IntKind.signed]
  omega

set_option maxHeartbeats 4000000 in
theorem read_text (ins L post : List UInt8) (n N i0 : Nat) (S : ByteArray) (w : World) (hS : Hid (S = ⟨L.toArray⟩)) (hN : Hid (L.length = N)) (hNl : N ≤ 1000000) (hn : Hid (ins.length = n)) (hL : Hid (L.drop i0 = 34 :: (Box.hex ins ++ 34 :: post))) :
    Calls Tryd.prog 12 #[.string S, .int .i64 (i0 : Int)] w fun e w' => ∃ a c, e = .returned (.tuple #[.agg #[.int .u8 116, .int .i64 0, .slice a n c, .slice none 0 0], .int .i64 ((i0 + (2 * n + 2) : Nat) : Int)]) ∧ At w' a ins ∧ (∀ b off, a = some ⟨b, off, none⟩ → w.heap.size ≤ b ∧ b < w'.heap.size) ∧ w.grownBy w' none := by
  obtain ⟨i0', hif, hz0, hz1, hz2⟩ := info_parts Tryd.info5
  have hsz : S.size = N := by rw [hS.out, ← hN.out]; simp [ByteArray.size]
  have hlen : i0 + (2 * n + 2) ≤ N := by
    have := congrArg List.length hL.out
    rw [List.length_drop, List.length_cons, List.length_append, List.length_cons, Box.hex_length, hn.out, hN.out] at this
    omega
  have g0 : ∀ h : i0 < S.size, S[i0]'h = 34 := fun h => by rw [bget hS.out]; exact (drop_cons hL.out).1
  have gE : ∀ h : i0 + 1 + 2 * n < S.size, S[i0 + 1 + 2 * n]'h = 34 := fun h => by
    rw [bget hS.out]
    have := at_of_drop (k := 2 * n + 1) (z := 34) hL.out (by
      rw [List.getElem?_cons_succ, List.getElem?_append_right (by rw [Box.hex_length, hn.out]; omega), Box.hex_length, hn.out]
      rw [show 2 * n - 2 * n = 0 from by omega]
      rfl)
    rw [show i0 + 1 + 2 * n = i0 + (2 * n + 1) from by omega]
    exact this
  have gA : ∀ j (hj : j < ins.length), (∀ h : i0 + 1 + 2 * j < S.size, S[i0 + 1 + 2 * j]'h = Box.dig (ins[j].toNat / 16)) ∧ (∀ h : i0 + 1 + 2 * j + 1 < S.size, S[i0 + 1 + 2 * j + 1]'h = Box.dig (ins[j].toNat % 16)) := by
    intro j hj
    have hh := hex_at ins j hj
    have hl : 2 * j + 1 < (Box.hex ins).length := by rw [Box.hex_length]; omega
    refine ⟨fun h => ?_, fun h => ?_⟩
    · rw [bget hS.out, show i0 + 1 + 2 * j = i0 + (2 * j + 1) from by omega]
      refine at_of_drop hL.out ?_
      rw [List.getElem?_cons_succ, List.getElem?_append_left (by omega)]
      exact hh.1
    · rw [bget hS.out, show i0 + 1 + 2 * j + 1 = i0 + (2 * j + 1 + 1) from by omega]
      refine at_of_drop hL.out ?_
      rw [List.getElem?_cons_succ, List.getElem?_append_left (by omega)]
      exact hh.2
  have hNi : ¬ N ≤ i0 := by omega
  have hNi2 : decide (N ≤ i0) = false := decide_eq_false hNi
  have G0 : w.grownBy ((w.alloc (.cells zeroPart 30)).alloc (.cells #[.int .u8 116, .int .i64 0, .slice none 0 0, .slice none 0 0] 30)) none := gb_alloc (World.grownBy_alloc w _ none) _
  go_enter Tryd.func12, Tryd.ntmps12
  go_wp2_with fail
  go_loopw [1] (fun i wr => ∃ (j pos : Nat) (lv : Value), j ≤ n ∧ i = .int .i64 (pos : Int) ∧ Hid (pos = i0 + 1 + 2 * j) ∧ wr.ownsRow (w.heap.size + 2) 5 1 lv j ((ins.take j).map U8) ∧ Blk wr (w.heap.size + 1) #[.int .u8 116, .int .i64 0, lv, .slice none 0 0] ∧ Blk wr w.heap.size zeroPart ∧ w.grownBy wr none ∧ w.heap.size + 2 ≤ wr.heap.size) (fun i _ => i0 + 1 + 2 * n - (intOf i).toNat)
  case atStart =>
    refine ⟨0, i0 + 1, .slice none 0 0, Nat.zero_le _, by go_num, hid (by omega), World.ownsRow_nil _ _ _ _, ?_, (Blk.new w _ _).alloc _, G0, by simp⟩
    have := Blk.new (w.alloc (.cells zeroPart 30)) #[.int .u8 116, .int .i64 0, .slice none 0 0, .slice none 0 0] 30
    rw [World.size_alloc] at this
    exact this
  case round =>
    obtain ⟨j, pos, lv, hj, rfl, HPos, hown, hP, hR, hgr, hbs⟩ := hrel
    obtain ⟨av, cv, rfl, _, _, hnc, hat⟩ := own_at2 hown
    have p0 := hP.cell 0
    have p1 := hP.cell 1
    have p2 := hP.cell 2
    have p3 := hP.cell 3
    simp only [List.getElem?_toArray, List.getElem?_cons_zero, List.getElem?_cons_succ] at p0 p1 p2 p3
    by_cases hlt : j < n
    · have hlt' : j < ins.length := by rw [hn.out]; exact hlt
      obtain ⟨gA1, gA2⟩ := gA j hlt'
      have hzj := ins[j].toNat_lt
      have HZ : Hid (ins.take (j + 1) = ins.take j ++ [ins[j]]) := take_snoc hlt'
      generalize ins[j] = zj at gA1 gA2 hzj HZ
      have hb1 : ((Box.dig (zj.toNat / 16)).toNat : Int) != 34 := by rw [dig_int _ (by omega), bne_iff_ne]; split <;> omega
      have hd1 := fun w => kdigit_any (zj.toNat / 16) w (by omega)
      have hd2 := fun w => kdigit_any (zj.toNat % 16) w (by omega)
      have hPos := HPos.out
      rw [← hPos] at gA1 gA2
      have hpN : (pos : Int) + 1 < (N : Int) := by omega
      have hp0 : (0 : Int) ≤ (pos : Int) := by omega
      have HPos2 : Hid (pos + 2 = i0 + 1 + 2 * (j + 1)) := by show _ = _; omega
      have hPosM : Hid (pos ≤ i0 + 1 + 2 * n ∧ pos < i0 + 1 + 2 * n) := ⟨by omega, by omega⟩
      clear hPos
      obtain ⟨x1, hx1⟩ : ∃ x, x = Box.dig (zj.toNat / 16) := ⟨_, rfl⟩
      obtain ⟨x2, hx2⟩ : ∃ x, x = Box.dig (zj.toNat % 16) := ⟨_, rfl⟩
      rw [← hx1] at gA1 hb1 hd1
      rw [← hx2] at gA2 hd2
      clear hx1 hx2
      obtain ⟨hi4, hhi⟩ : ∃ q, q = zj.toNat / 16 := ⟨_, rfl⟩
      obtain ⟨lo4, hlo⟩ : ∃ q, q = zj.toNat % 16 := ⟨_, rfl⟩
      rw [← hhi] at hd1
      rw [← hlo] at hd2
      have hq1 : hi4 ≤ 15 := by omega
      have hq2 : lo4 ≤ 15 := by omega
      have HQ : Hid (16 * (hi4 : Int) + (lo4 : Int) = (zj.toNat : Int)) := by show _ = _; omega
      have hq3 : ¬ ((hi4 : Int) < 0) := by omega
      have hq4 : ¬ ((lo4 : Int) < 0) := by omega
      clear gA gE hat hhi hlo
      go_wp2_with fail
      refine (hd1 _).mono ?_
      rintro e w' ⟨rfl, rfl⟩
      go_wp2_with fail
      refine (hd2 _).mono ?_
      rintro e w' ⟨rfl, rfl⟩
      clear hd1 hd2
      have hby : IntKind.u8.wrap (16 * (hi4 : Int) + (lo4 : Int)) = ((zj.toNat : Nat) : Int) := by rw [HQ.out]; exact wrap8' zj
      go_wp2_with (at_builtin; refine wpList_append_at _ rfl _ _ 22 rfl (w.heap.size + 2) 5 i0' Tryd.underlying22 hif hz0 hz1 hz2 _ _ _ rfl (hown.alloc _) (some ⟨wr.heap.size, 0, none⟩) 1 1 [zj] rfl rfl ?a1 ?a2 ?a3 ?a4 ?_)
      case a1 => intro h; cases h
      case a2 => exact bytes_new wr _ _ _ rfl
      case a3 => omega
      case a4 => simp; omega
      intro v1 w1 hown1 hg1 _
      have hne : ∀ g, g < w.heap.size + 2 → some g ≠ (Value.slice av j cv).ownBlock := fun g hg e => by have := (hown.lt g e.symm).1; omega
      have hP1 := (hP.alloc (.cells #[.int .u8 (zj.toNat : Int)] 5)).grown hg1 (hne _ (by omega))
      have hR1 := (hR.alloc (.cells #[.int .u8 (zj.toNat : Int)] 5)).grown hg1 (hne _ (by omega))
      have G1 : w.grownBy w1 none := gb_row (gb_alloc hgr _) hg1 (fun i hi => by have := (hown.lt i hi).1; omega)
      have hs1 : w.heap.size + 2 ≤ w1.heap.size := by have := hg1.size; simp at this; omega
      have RO : w1.ownsRow (w.heap.size + 2) 5 1 v1 (j + 1) ((ins.take (j + 1)).map U8) := by
        rw [HZ.out]
        simpa using hown1
      obtain ⟨a1, c1, rfl, _, _, _, _⟩ := own_at2 RO
      have p2' := hP1.cell 2
      have p2f := hP1.frozen 2
      simp only [List.getElem?_toArray, List.getElem?_cons_zero, List.getElem?_cons_succ] at p2'
      clear hown hown1 hg1 hP hR hgr hne p0 p1 p2 p3
      go_wp2
      go_roundw
      case rel =>
        refine ⟨j + 1, pos + 2, .slice a1 (j + 1) c1, by omega, by go_num, HPos2, ownsRow_setCell_below RO (by show w.heap.size + 1 < w.heap.size + 2; omega) _, ?_, hR1.other _ _ (by show w.heap.size ≠ w.heap.size + 1; omega), gb_store G1 (by omega), by rw [World.size_setCell]; exact hs1⟩
        have := hP1.set 2 (.slice a1 (j + 1) c1)
        simpa using this
      case measure =>
        have := hPosM.out
        simp [intOf]
        omega
    · have hjn : j = n := by omega
      subst hjn
      have hPos := HPos.out
      rw [← hPos] at gE
      have hpN : (pos : Int) < (N : Int) := by omega
      have hpN2 : ¬ ((N : Int) ≤ (pos : Int)) := by omega
      have hpN3 : ¬ (N ≤ pos) := by omega
      have hp0 : (0 : Int) ≤ (pos : Int) := by omega
      have HPE : Hid ((pos : Int) + 1 = ((i0 + (2 * j + 2) : Nat) : Int)) := by show _ = _; omega
      have hins : ins.take j = ins := List.take_of_length_le (by rw [hn.out]; exact Nat.le_refl _)
      rw [hins] at hat hown
      have hblk : ∀ b off, av = some ⟨b, off, none⟩ → w.heap.size ≤ b ∧ b < wr.heap.size := by
        intro b off e
        subst e
        have := hown.lt b rfl
        omega
      have hblk2 : ∀ b off, av = some ⟨b, off, none⟩ → w.heap.size + 2 ≤ b := by
        intro b off e
        subst e
        exact (hown.lt b rfl).1
      have r0 := hR.cell 0
      have r1 := hR.cell 1
      have r2 := hR.cell 2
      have r3 := hR.cell 3
      have s0 := hR.frozen 0
      have s1 := hR.frozen 1
      have s2 := hR.frozen 2
      have s3 := hR.frozen 3
      simp only [List.getElem?_toArray, List.getElem?_cons_zero, List.getElem?_cons_succ] at r0 r1 r2 r3
      clear hPos gA hins
      by_cases hp1 : pos + 1 < N
      · have hp1' : (pos : Int) + 1 < (N : Int) := by omega
        go_wp2
        (try simp only [Exit.inBlock, Exit.then])
        refine bodyPost_ret (results_cell2 rfl _ _ _ w.heap.size rfl _ (partLoad (blk_set4 hR _ _ _ _))) rfl ?_
        refine ⟨av, ⟨cv, tup_pos (by have := HPE.out; omega)⟩, at_set4 hat (fun b off e => by have := hblk2 b off e; omega) _ _ _ _, fun b off e => by simp only [World.size_setCell]; exact hblk b off e, gb_set4 hgr (Nat.le_refl _)⟩
      · have hp1' : ¬ (pos : Int) + 1 < (N : Int) := by omega
        go_wp2
        (try simp only [Exit.inBlock, Exit.then])
        refine bodyPost_ret (results_cell2 rfl _ _ _ w.heap.size rfl _ (partLoad (blk_set4 hR _ _ _ _))) rfl ?_
        refine ⟨av, ⟨cv, tup_pos (by have := HPE.out; omega)⟩, at_set4 hat (fun b off e => by have := hblk2 b off e; omega) _ _ _ _, fun b off e => by simp only [World.size_setCell]; exact hblk b off e, gb_set4 hgr (Nat.le_refl _)⟩
end Go.Proofs.YtbanfbpfapjfcaaDoor
