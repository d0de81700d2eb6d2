/-
  What a part that was read is; the contract of read at numbers and texts. Conditions: in each statement.
-/
import Derived.Test.YtbanfbpfapjfcaaDoorKRead
import Derived.Test.YtbanfbpfapjfcaaDoorBlk
import Derived.Test.YtbanfbpfapjfcaaDoorBoxH
namespace Go.Proofs.YtbanfbpfapjfcaaDoor
open Go.RowKit
set_option maxRecDepth 100000

theorem gb_grow (w : World) (k : Nat) (os : Array Obj) : w.grownBy (Sort.grow (w.drewN k) os) none := by
  have h := Lib.below_grow w.heap.size w (Nat.le_refl _) k os
  exact ⟨h.os, h.tape, h.output, h.size, fun i hi _ => h.block i hi⟩
theorem formatInt_any (n : Int) (h0 : -9223372036854775808 ≤ n) (h1 : n ≤ 9223372036854775807) (w : World) (htab : TabHere w) :
    Calls Tryd.prog 16 #[.int .i64 n, .int .i64 10] w fun e w' => e = .returned (.string ⟨(Lib.itoa n).toArray⟩) ∧ w.grownBy w' none :=
  (Go.Proofs.Tryd.strconv_FormatInt_10 n h0 h1 w htab).mono fun e w' ⟨he, k, os, hw⟩ => ⟨he, by rw [hw]; exact gb_grow w k os⟩
theorem tab_grown {w w' : World} (h : TabHere w) (k : w.grownBy w' none) : TabHere w' := Lib.tabBelow_of_tabIs h w' (gb_below k)

/-- A part that is no list: its four cells. -/
def LeafIs (w : World) (ok : Nat → Prop) (tag : UInt8) (ins : List UInt8) (cs : List Value) : Prop :=
  (tag.toNat = 2 ∧ ∃ v, Box.num ins = some v ∧ cs = [.int .u8 110, .int .i64 v, .slice none 0 0, .slice none 0 0]) ∨
  (tag.toNat = 4 ∧ ∃ a c, cs = [.int .u8 116, .int .i64 0, .slice a ins.length c, .slice none 0 0] ∧ At w a ins ∧ ∀ b off, a = some ⟨b, off, none⟩ → ok b)
/-- A part: its four cells; of a list too, so deep. -/
def PartIs : Nat → World → (Nat → Prop) → UInt8 → List UInt8 → List Value → Prop
  | 0, w, ok, tag, ins, cs => LeafIs w ok tag ins cs
  | d + 1, w, ok, tag, ins, cs => LeafIs w ok tag ins cs ∨
    (tag.toNat = 48 ∧ ∃ (ps : List (UInt8 × List UInt8)) (a : Option Addr) (c : Nat) (css : List (List Value)), Box.cutsL ins = some ps ∧ cs = [.int .u8 108, .int .i64 0, .slice none 0 0, .slice a ps.length c] ∧ css.length = ps.length ∧
      ∀ k (hk : k < ps.length) (hk' : k < css.length), css[k].length = 4 ∧ PartIs d w ok ps[k].1 ps[k].2 css[k] ∧ ∃ g, a = some ⟨g, 0, none⟩ ∧ ok g ∧ ∀ j, j < 4 → w.cell? ⟨g, k * 4 + j, none⟩ = (css[k])[j]?)
theorem cell_kept {w w' : World} {b j : Nat} (h : w'.heap[b]? = w.heap[b]?) : w'.cell? ⟨b, j, none⟩ = w.cell? ⟨b, j, none⟩ := by
  simp [World.cell?, h]
theorem LeafIs.keep {w w' : World} {ok ok' : Nat → Prop} {tag : UInt8} {ins : List UInt8} {cs : List Value} (h : LeafIs w ok tag ins cs) (hk : ∀ b, ok b → w'.heap[b]? = w.heap[b]?) (ho : ∀ b, ok b → ok' b) : LeafIs w' ok' tag ins cs := by
  rcases h with h | ⟨h1, a, c, h2, h3, h4⟩
  · exact .inl h
  · refine .inr ⟨h1, a, c, h2, ?_, fun b off e => ho b (h4 b off e)⟩
    intro j hj
    obtain ⟨b, off, e1, e2⟩ := h3 j hj
    exact ⟨b, off, e1, by rw [cell_kept (hk b (h4 b off e1))]; exact e2⟩
theorem PartIs.keep : ∀ {d : Nat} {w w' : World} {ok ok' : Nat → Prop} {tag : UInt8} {ins : List UInt8} {cs : List Value}, PartIs d w ok tag ins cs → (∀ b, ok b → w'.heap[b]? = w.heap[b]?) → (∀ b, ok b → ok' b) → PartIs d w' ok' tag ins cs := by
  intro d
  induction d with
  | zero => intro w w' ok ok' tag ins cs h hk ho; exact LeafIs.keep h hk ho
  | succ d ih =>
    intro w w' ok ok' tag ins cs h hk ho
    rcases h with h | ⟨h1, ps, a, c, css, h2, h3, h4, h5⟩
    · exact .inl (h.keep hk ho)
    · refine .inr ⟨h1, ps, a, c, css, h2, h3, h4, fun k hk1 hk2 => ?_⟩
      obtain ⟨q1, q2, g, q3, q4, q5⟩ := h5 k hk1 hk2
      exact ⟨q1, ih q2 hk ho, g, q3, ho g q4, fun j hj => by rw [cell_kept (hk g q4)]; exact q5 j hj⟩
theorem PartIs.leaf {d : Nat} {w : World} {ok : Nat → Prop} {tag : UInt8} {ins : List UInt8} {cs : List Value} (h : LeafIs w ok tag ins cs) : PartIs d w ok tag ins cs := by
  cases d with
  | zero => exact h
  | succ d => exact .inl h

abbrev zeroPart : Array Value := #[.int .u8 0, .int .i64 0, .slice none 0 0, .slice none 0 0]
theorem partLoad {w : World} {g : Nat} {x y z u : Value} (h : Blk w g #[x, y, z, u]) : (loadVar 30 ⟨g, 0, none⟩).run Tryd.prog w = .ok (.agg #[x, y, z, u]) w :=
  h.load 30 _ Tryd.underlying30 rfl (by kernel_rfl)
theorem results_cell2 {fn : Func} {a u : Tmp} {ty : TypeId} (h : fn.results = #[.cell a ty, .tmp u]) (tmps : Array Value) (P : Program) (w : World) (b : Nat) (hp : tmps.getD a undef = .pointer (some ⟨b, 0, none⟩)) (x : Value) (hl : (loadVar ty ⟨b, 0, none⟩).run P w = .ok x w) :
    (results fn tmps).run P w = .ok (.tuple #[x, tmps.getD u undef]) w := by
  have hp' : tmps[a]?.getD undef = .pointer (some ⟨b, 0, none⟩) := by simpa using hp
  simp [results, h, hp', hl, asAddr]
theorem results_cell1 {fn : Func} {a : Tmp} {ty : TypeId} (h : fn.results = #[.cell a ty]) (tmps : Array Value) (P : Program) (w : World) (b : Nat) (hp : tmps.getD a undef = .pointer (some ⟨b, 0, none⟩)) (x : Value) (hl : (loadVar ty ⟨b, 0, none⟩).run P w = .ok x w) :
    (results fn tmps).run P w = .ok x w := by
  have hp' : tmps[a]?.getD undef = .pointer (some ⟨b, 0, none⟩) := by simpa using hp
  simp [results, h, hp', hl, asAddr]
theorem blk_set4 {w : World} {g : Nat} {a b c d : Value} (h : Blk w g #[a, b, c, d]) (x y z u : Value) : Blk ((((w.setCell ⟨g, 0, none⟩ x).setCell ⟨g, 1, none⟩ y).setCell ⟨g, 2, none⟩ z).setCell ⟨g, 3, none⟩ u) g #[x, y, z, u] := by
  simpa using (((h.set 0 x).set 1 y).set 2 z).set 3 u
theorem gb_set4 {a b : World} {g : Nat} {x y z u : Value} (h : a.grownBy b none) (hg : a.heap.size ≤ g) : a.grownBy ((((b.setCell ⟨g, 0, none⟩ x).setCell ⟨g, 1, none⟩ y).setCell ⟨g, 2, none⟩ z).setCell ⟨g, 3, none⟩ u) none :=
  gb_store (gb_store (gb_store (gb_store h hg) hg) hg) hg

theorem str_slice {P : Program} (t : TypeId) (ht : P.underlying t = some .string) (S : ByteArray) (L x : List UInt8) (a b : Nat) (hS : S = ⟨L.toArray⟩) (hx : (L.drop a).take (b - a) = x) (hab : a ≤ b) (hb : b ≤ L.length) (ia ib : Int) (ha : ia = (a : Int)) (hib : ib = (b : Int)) (w : World) :
    (Instr.sliceAt t (.string S) (some (.int .i64 ia)) (some (.int .i64 ib)) none).run P w = .ok (.string ⟨x.toArray⟩) w := by
  subst ha hib hS
  have hsz : (⟨L.toArray⟩ : ByteArray).size = L.length := by simp [ByteArray.size]
  rw [run_sliceAt_string w t _ _ _ _ ht, run_slice_string w t _ .i64 .i64 (a : Int) (b : Int) ht (by omega) (by omega) (by rw [hsz]; omega), Int.toNat_natCast, Int.toNat_natCast]
  congr 2
  refine ByteArray.ext (Array.toList_inj.1 ?_)
  simp only [ByteArray.data_extract, Array.toList_extract, List.extract_eq_take_drop]
  exact hx

theorem tup_pos {v : Value} {x y : Int} (h : x = y) : Ending.returned (.tuple #[v, .int .i64 x]) = .returned (.tuple #[v, .int .i64 y]) := by rw [h]

set_option maxHeartbeats 4000000 in
theorem read_num (v : Int) (L t post : List UInt8) (N i0 : Nat) (S : ByteArray) (w : World) (hS : Hid (S = ⟨L.toArray⟩)) (hN : Hid (L.length = N)) (hNl : N ≤ 1000000) (hL : Hid (L.drop i0 = t ++ post)) (ht : Hid (Lib.itoa v = t)) (hE : Hid (Ends post)) (h0 : -9223372036854775808 ≤ v) (h1 : v ≤ 9223372036854775807) (htab : TabHere w) :
    Calls Tryd.prog 12 #[.string S, .int .i64 (i0 : Int)] w fun e w' => e = .returned (.tuple #[.agg #[.int .u8 110, .int .i64 v, .slice none 0 0, .slice none 0 0], .int .i64 ((i0 + t.length : Nat) : Int)]) ∧ w.grownBy w' none := by
  have hsz : S.size = N := by rw [hS.out, ← hN.out]; simp [ByteArray.size]
  obtain ⟨T, hT⟩ : ∃ T, T = t.length := ⟨_, rfl⟩
  have HT : Hid (t.length = T) := hT.symm
  rw [← hT]
  clear hT
  have hsg : Hid (∀ b ∈ t, b.toNat = 45 ∨ (48 ≤ b.toNat ∧ b.toNat ≤ 57)) := by rw [← ht.out]; exact (itoa_signs v).2
  have hT1 : 0 < T := by
    rw [← HT.out]
    refine List.length_pos_iff.2 ?_
    rw [← ht.out]
    exact (itoa_signs v).1
  have hTN : i0 + T ≤ N := by
    have := congrArg List.length hL.out
    rw [List.length_drop, List.length_append, HT.out, hN.out] at this
    omega
  have hat : ∀ j, j < T → ∀ h : i0 + j < S.size, ∃ z, S[i0 + j]'h = z ∧ (z.toNat = 45 ∨ (48 ≤ z.toNat ∧ z.toNat ≤ 57)) := by
    intro j hj h
    have hj' : j < t.length := by rw [HT.out]; exact hj
    refine ⟨t[j], ?_, hsg.out _ (List.getElem_mem hj')⟩
    rw [bget hS.out]
    have : (L.drop i0)[j]? = some t[j] := by rw [hL.out, List.getElem?_append_left hj', List.getElem?_eq_getElem hj']
    rw [List.getElem?_drop] at this
    simp [List.getD, this]
  have hend : i0 + T < N → ∀ h : i0 + T < S.size, (S[i0 + T]'h).toNat = 44 ∨ (S[i0 + T]'h).toNat = 125 := by
    intro hlt h
    have hp : L.drop (i0 + T) = post := by rw [← List.drop_drop, hL.out, ← HT.out, List.drop_left]
    rw [bget hS.out]
    rcases hE.out with e | ⟨r, e⟩ | ⟨r, e⟩
    · rw [e] at hp
      have := drop_nil hp
      rw [hN.out] at this
      omega
    · rw [e] at hp; rw [(drop_cons hp).1]; exact .inl rfl
    · rw [e] at hp; rw [(drop_cons hp).1]; exact .inr rfl
  obtain ⟨z0, hz0, hz0'⟩ := hat 0 hT1 (by omega)
  have hg0 : ∀ h : i0 < S.size, S[i0]'h = z0 := fun h => hz0
  have b34 : ((z0.toNat : Int) == 34) = false := by rw [beq_eq_false_iff_ne]; omega
  have b123 : ((z0.toNat : Int) == 123) = false := by rw [beq_eq_false_iff_ne]; omega
  have hs1 := fun w => str_slice (P := Tryd.prog) 9 Tryd.underlying9 S L t i0 (i0 + T) hS.out (by rw [hL.out, show i0 + T - i0 = t.length from by rw [HT.out]; omega, List.take_left]) (by omega) (by rw [hN.out]; exact hTN) (i0 : Int) ((i0 : Int) + (T : Int)) rfl (by omega) w
  have hNi : ¬ N ≤ i0 := by omega
  have hNi2 : decide (N ≤ i0) = false := decide_eq_false hNi
  clear hz0
  go_enter Tryd.func12, Tryd.ntmps12
  go_wp2_with fail
  go_loop [1] (fun i => ∃ j : Nat, j ≤ T ∧ i = .int .i64 ((i0 : Int) + (j : Int))) (fun i => i0 + T - (intOf i).toNat)
  case atStart => exact ⟨0, Nat.zero_le _, by go_num⟩
  case round =>
    obtain ⟨j, hj, rfl⟩ := hrel
    by_cases hlt : j < T
    · obtain ⟨z, hz, hz'⟩ := hat j hlt (by omega)
      have hgj : ∀ h : i0 + j < S.size, S[i0 + j]'h = z := fun h => hz
      have b44 : ((z.toNat : Int) != 44) = true := by rw [bne_iff_ne]; omega
      have b125 : ((z.toNat : Int) != 125) = true := by rw [bne_iff_ne]; omega
      clear hz hz' hat hend hs1
      go_wp2
      go_round
      case rel => exact ⟨j + 1, by omega, by go_num⟩
      case measure => simp [intOf]; omega
    · have hjT : j = T := by omega
      subst hjT
      have G0 : w.grownBy (w.alloc (.cells zeroPart 30)) none := World.grownBy_alloc w _ none
      have hB0 := Blk.new w zeroPart 30
      have hW := kwhole_any v ⟨t.toArray⟩ (w.alloc (.cells zeroPart 30)) (hid (by rw [ht.out])) h0 h1
      have hF : ∀ wx, w.grownBy wx none → Calls Tryd.prog 16 #[.int .i64 v, .int .i64 10] wx fun e w' => e = .returned (.string ⟨t.toArray⟩) ∧ wx.grownBy w' none := fun wx hx => by
        have := formatInt_any v h0 h1 wx (tab_grown htab hx)
        rw [ht.out] at this
        exact this
      have hHead : (i0 + j < N → ∃ z : UInt8, (∀ h : i0 + j < S.size, S[i0 + j]'h = z) ∧ (z.toNat = 44 ∨ z.toNat = 125)) := by
        intro hN2
        refine ⟨S[i0 + j]'(by omega), fun _ => rfl, hend hN2 (by omega)⟩
      clear hat hend hz0'
      by_cases hN2 : i0 + j < N
      · have hN3 : (i0 : Int) + (j : Int) < (N : Int) := by omega
        obtain ⟨z, hz1, hz2⟩ := hHead hN2
        clear hHead
        by_cases h44 : z.toNat = 44
        · have b44 : ((z.toNat : Int) != 44) = false := by rw [bne_eq_false_iff_eq]; omega
          clear hz2 h44
          go_wp2_with fail
          refine hW.mono ?_
          rintro e w' ⟨rfl, rfl⟩
          clear hW
          go_wp2_with fail
          go_region_with (go_at_call 16; refine (hF _ (gb_drew G0)).mono ?_; rintro e w2 ⟨rfl, hg2⟩; have hB2 := hB0.drew.grown hg2 (by simp); have G2 := gb_trans (gb_drew G0) hg2; clear hg2; have r0 := hB2.cell 0; have r1 := hB2.cell 1; have r2 := hB2.cell 2; have r3 := hB2.cell 3; simp only [List.getElem?_toArray, List.getElem?_cons_zero, List.getElem?_cons_succ] at r0 r1 r2 r3; have s0 := hB2.frozen 0; have s1 := hB2.frozen 1; have s2 := hB2.frozen 2; have s3 := hB2.frozen 3)
          go_wp2
          (try simp only [Exit.inBlock, Exit.then])
          refine bodyPost_ret (results_cell2 rfl _ _ _ w.heap.size rfl _ (partLoad (blk_set4 hB2 _ _ _ _))) rfl ?_
          exact ⟨tup_pos (by omega), gb_set4 G2 (Nat.le_refl _)⟩
        · have b44 : ((z.toNat : Int) != 44) = true := by rw [bne_iff_ne]; omega
          have b125 : ((z.toNat : Int) != 125) = false := by rw [bne_eq_false_iff_eq]; omega
          clear hz2 h44
          go_wp2_with fail
          refine hW.mono ?_
          rintro e w' ⟨rfl, rfl⟩
          clear hW
          go_wp2_with fail
          go_region_with (go_at_call 16; refine (hF _ (gb_drew G0)).mono ?_; rintro e w2 ⟨rfl, hg2⟩; have hB2 := hB0.drew.grown hg2 (by simp); have G2 := gb_trans (gb_drew G0) hg2; clear hg2; have r0 := hB2.cell 0; have r1 := hB2.cell 1; have r2 := hB2.cell 2; have r3 := hB2.cell 3; simp only [List.getElem?_toArray, List.getElem?_cons_zero, List.getElem?_cons_succ] at r0 r1 r2 r3; have s0 := hB2.frozen 0; have s1 := hB2.frozen 1; have s2 := hB2.frozen 2; have s3 := hB2.frozen 3)
          go_wp2
          (try simp only [Exit.inBlock, Exit.then])
          refine bodyPost_ret (results_cell2 rfl _ _ _ w.heap.size rfl _ (partLoad (blk_set4 hB2 _ _ _ _))) rfl ?_
          exact ⟨tup_pos (by omega), gb_set4 G2 (Nat.le_refl _)⟩
      · have hN3 : ¬ (i0 : Int) + (j : Int) < (N : Int) := by omega
        clear hHead
        go_wp2_with fail
        refine hW.mono ?_
        rintro e w' ⟨rfl, rfl⟩
        clear hW
        go_wp2_with fail
        go_region_with (go_at_call 16; refine (hF _ (gb_drew G0)).mono ?_; rintro e w2 ⟨rfl, hg2⟩; have hB2 := hB0.drew.grown hg2 (by simp); have G2 := gb_trans (gb_drew G0) hg2; clear hg2; have r0 := hB2.cell 0; have r1 := hB2.cell 1; have r2 := hB2.cell 2; have r3 := hB2.cell 3; simp only [List.getElem?_toArray, List.getElem?_cons_zero, List.getElem?_cons_succ] at r0 r1 r2 r3; have s0 := hB2.frozen 0; have s1 := hB2.frozen 1; have s2 := hB2.frozen 2; have s3 := hB2.frozen 3)
        go_wp2
        (try simp only [Exit.inBlock, Exit.then])
        refine bodyPost_ret (results_cell2 rfl _ _ _ w.heap.size rfl _ (partLoad (blk_set4 hB2 _ _ _ _))) rfl ?_
        exact ⟨tup_pos (by omega), gb_set4 G2 (Nat.le_refl _)⟩
end Go.Proofs.YtbanfbpfapjfcaaDoor
