/-
  The walk of Told. Conditions: in each statement.
-/
import Derived.Test.YtbanfbpfapjfcaaDoorKToldC
import Derived.Deep.CutBlock
namespace Go.Proofs.YtbanfbpfapjfcaaDoor
open Go.RowKit
set_option maxRecDepth 100000

theorem ItsOk.more {wr w1 w2 : World} {base : Nat} {lv lv' : Value} {its : List KIt} {x : KIt} (h : ItsOk wr base lv its) (hg1 : wr.grownBy w1 none) (hg2 : w1.grownBy w2 lv.ownBlock) (hb : base ≤ wr.heap.size) (hlt : ∀ g, lv.ownBlock = some g → g < wr.heap.size) (hlv : lv'.ownBlock = lv.ownBlock ∨ ∃ g, lv'.ownBlock = some g ∧ w1.heap.size ≤ g)
    (hx1 : At w1 x.1 x.2.2) (hx2 : x.1 = none → x.2.1 = 0) (hx3 : ∀ b off, x.1 = some ⟨b, off, none⟩ → wr.heap.size ≤ b ∧ b < w1.heap.size) : ItsOk w2 base lv' (its ++ [x]) := by
  have s1 := hg1.size
  have s2 := hg2.size
  intro y hy
  rcases List.mem_append.1 hy with hy | hy
  · obtain ⟨q1, q2, q3⟩ := h y hy
    refine ⟨at_keep q1 (fun b off e => ?_), q2, fun b off e => ?_⟩
    · have := q3 b off e
      rw [hg2.block b (by omega) this.2.2, hg1.block b this.2.1 (by simp)]
    · have := q3 b off e
      refine ⟨this.1, by omega, ?_⟩
      rcases hlv with e2 | ⟨g, e2, hge⟩
      · rw [e2]; exact this.2.2
      · rw [e2]; simp; omega
  · rw [List.mem_singleton.1 hy]
    have hne : ∀ b, wr.heap.size ≤ b → some b ≠ lv.ownBlock := fun b hb' e => by have := hlt b e.symm; omega
    refine ⟨at_keep hx1 (fun b off e => ?_), hx2, fun b off e => ?_⟩
    · have := hx3 b off e
      exact hg2.block b this.2 (hne b this.1)
    · have := hx3 b off e
      refine ⟨by omega, by omega, ?_⟩
      rcases hlv with e2 | ⟨g, e2, hge⟩
      · rw [e2]; exact hne b this.1
      · rw [e2]; simp; omega

theorem kcat_nums (its : List KIt) (l : List Int) (h : its.map (·.2.2) = l.map numBox) : kcat its = numsCat l := by
  rw [kcat, numsCat, ← h]

set_option maxHeartbeats 8000000 in
theorem told_any (v : Int) (bs : List UInt8) (bn : Nat) (ba : Option Addr) (bcap : Nat) (ls : List Int) (ln : Nat) (la : Option Addr) (lcap : Nat) (w : World) (hv : I64' v) (hbn : Hid (bs.length = bn)) (hbnl : bn ≤ bcap) (hbm : bcap ≤ 9223372036854775807) (hbc : Hid (ba = none → bcap = 0)) (hba : At w ba bs) (hln : Hid (ls.length = ln)) (hlnl : ln ≤ 9223372036854775807) (hla : IAt w la ls) (hls : ∀ x ∈ ls, I64' x) (htab : TabHere w) :
    Calls Tryd.prog 3 #[.int .i64 v, .slice ba bn bcap, .slice la ln lcap] w fun e w' => e = .returned (.bool true) ∧ Below w.heap.size w w' := by
  obtain ⟨i0, hif, hz0, hz1, hz2⟩ := info_parts Tryd.info5
  obtain ⟨ib, hib, hb0, hb1, hb2⟩ := info_parts Tryd.infoBytes
  obtain ⟨B, hB⟩ : ∃ B, B = bs.take 60 := ⟨_, rfl⟩
  have hBl : B.length ≤ 60 := by rw [hB]; simp; omega
  obtain ⟨nB, hnB⟩ : ∃ n, n = B.length := ⟨_, rfl⟩
  have HNB : Hid (B.length = nB) := hnB.symm
  have hnB60 : nB ≤ 60 := by omega
  clear hnB
  go_enter Tryd.func3, Tryd.ntmps3
  go_upto_if 21 with fail
  go_cut [1] (fun b1 wx => ∃ (a : Option Addr) (c : Nat), b1 = .slice a nB c ∧ nB ≤ c ∧ c ≤ 9223372036854775807 ∧ Hid (a = none → c = 0) ∧ Hid (∀ w0, At w0 ba bs → At w0 a B) ∧ w = wx)
  case first =>
    by_cases h60 : 60 < bn
    · have h60' : (60 : Int) < (bn : Int) := by omega
      obtain ⟨a1, e1, hat1⟩ := slice_to 22 5 i0 Tryd.underlying22 hif hz1 ba bn bcap hbn hbnl 60 60 rfl (by omega)
      have hnB' : nB = 60 := by rw [← HNB.out, hB, List.length_take, hbn.out]; omega
      have hHat : Hid (∀ w0, At w0 ba bs → At w0 a1 B) := by rw [hB]; exact hat1
      have hnc : Hid (a1 = none → bcap = 0) := by
        intro h
        have := hHat.out w hba
        rw [h] at this
        have := this.none
        have h2 := HNB.out
        rw [this] at h2
        simp at h2
        omega
      subst hnB'
      clear hat1 hB
      go_wp2
      go_meet
      case rel => exact ⟨a1, bcap, rfl, by omega, hbm, hnc, hHat, rfl⟩
    · have h60' : ¬ (60 : Int) < (bn : Int) := by omega
      have hBe : B = bs := by rw [hB]; exact List.take_of_length_le (by rw [hbn.out]; omega)
      have hnB' : nB = bn := by rw [← HNB.out, hBe, hbn.out]
      subst hnB'
      have hHat : Hid (∀ w0, At w0 ba bs → At w0 ba B) := by rw [hBe]; exact fun _ h => h
      clear hB hBe
      go_wp2
      go_meet
      case rel => exact ⟨ba, bcap, rfl, hbnl, hbm, hbc, hHat, rfl⟩
  case rest =>
    obtain ⟨a, c, rfl, hnc1, hcm1, hnc, hHat, rfl⟩ := hcut
    have hatB := hHat.out _ hba
    clear hB hHat hba hbc hbnl hbm
    obtain ⟨M, hM⟩ : ∃ M, M = min ln 10 := ⟨_, rfl⟩
    have hM10 : M ≤ 10 := by omega
    have hMl : M ≤ ln := by omega
    have hMc : ∀ k : Nat, k < M → k < ln ∧ k < 10 := fun k hk => by omega
    have hMe : ¬ M < ln ∨ ¬ M < 10 := by omega
    obtain ⟨l, hl⟩ : ∃ l, l = ls.take M := ⟨_, rfl⟩
    have HLl : Hid (l.length = M) := by show _ = _; rw [hl, List.length_take, hln.out]; omega
    have hls2 : ∀ x ∈ l, I64' x := fun x hx => hls x (by rw [hl] at hx; exact List.mem_of_mem_take hx)
    have hla2 : IAt w la l := by
      intro j hj
      have hjM : j < M := by rw [← HLl.out]; exact hj
      obtain ⟨b, off, e1, e2⟩ := hla j (by rw [hln.out]; omega)
      refine ⟨b, off, e1, ?_⟩
      rw [e2]
      subst hl
      simp
    clear hl hla hls hM
    go_upto_block 0 with fail
    go_cut [7] (fun lv wx => ∃ (its : List KIt) (av : Option Addr) (cv : Nat), lv = .slice av M cv ∧ Hid (its.length = M) ∧ wx.ownsRow w.heap.size 22 1 (.slice av M cv) M (its.map itVal) ∧ Hid (ItsOk wx w.heap.size (.slice av M cv) its) ∧ Hid (its.map (·.2.2) = l.map numBox) ∧ w.grownBy wx none)
    case first =>
      go_wp2_with fail
      go_loopw [7, 8] (fun lv i wr => ∃ (k : Nat) (its : List KIt), k ≤ M ∧ i = .int .i64 k ∧ Hid (its.length = k) ∧ wr.ownsRow w.heap.size 22 1 lv k (its.map itVal) ∧ Hid (ItsOk wr w.heap.size lv its) ∧ Hid (its.map (·.2.2) = (l.take k).map numBox) ∧ w.grownBy wr none) (fun _ i _ => M - (intOf i).toNat)
      case atStart => exact ⟨0, [], Nat.zero_le _, rfl, hid rfl, World.ownsRow_nil _ _ _ _, hid (fun x hx => by simp at hx), hid rfl, World.grownBy.refl _ _⟩
      case round =>
        obtain ⟨k, its, hk, rfl, HI, hown, HOk, HM, hgr⟩ := hrel
        obtain ⟨av, cv, rfl⟩ := own_shape hown
        have hsz := hgr.size
        by_cases hlt : k < M
        · have hlt' : k < l.length := by rw [HLl.out]; exact hlt
          obtain ⟨hk1, hk2⟩ := hMc k hlt
          have hk1' : (k : Int) < (ln : Int) := by omega
          have hk2' : (k : Int) < 10 := by omega
          have hk0 : (0 : Int) ≤ (k : Int) := by omega
          obtain ⟨lb, loff, rfl, hck⟩ := (hla2.below hgr) k hlt'
          have hI := hls2 _ (List.getElem_mem hlt')
          have HT : Hid (l.take (k + 1) = l.take k ++ [l[k]]) := List.take_succ_eq_append_getElem hlt'
          generalize l[k] = lk at hck hI HT
          have hNum := knumber_any lk wr hI.1 hI.2
          have hll1 : k + 1 ≤ maxLen := by unfold maxLen; omega
          have hll : (k + 1) * 24 ≤ 140737488355328 := by omega
          clear hls2 hla2 hMc hMe
          go_wp2_with fail
          refine hNum.mono ?_
          rintro e w1 ⟨o, rfl, hownN, hg1⟩
          obtain ⟨a5, c5, rfl, hc5, _, hnc5, hat5⟩ := own_at2 hownN
          have hown1 := hown.kept hg1 (Classical.em _)
          have hs1 := hg1.size
          have hb5 : ∀ b off, a5 = some ⟨b, off, none⟩ → wr.heap.size ≤ b ∧ b < w1.heap.size := by
            intro b off e
            subst e
            exact hownN.lt b rfl
          have G1 := gb_trans hgr hg1
          have hcells := cells_new w1 22 [.slice a5 (Box.box 2 (Box.low lk (Box.size lk))).length c5]
          clear hNum hck
          go_wp2_with (at_builtin; refine wpList_append_blk _ rfl _ _ 24 rfl w.heap.size 22 ib _ 1 24 Tryd.underlying24 hib hb0 hb1 hb2 rfl (by decide) _ _ _ rfl (hown1.alloc _) ⟨w1.heap.size, 0, none⟩ 1 1 [.slice a5 (Box.box 2 (Box.low lk (Box.size lk))).length c5] rfl rfl hcells (by intro u hu; simp at hu; rcases hu with rfl; rfl) (by omega) hll1 hll (by simp; omega) ?_)
          intro v2 w2 hown2 hg2 hblk
          have R : ∃ (k' : Nat) (its : List KIt), k' ≤ M ∧ Value.int .i64 ((k : Int) + 1) = .int .i64 k' ∧ Hid (its.length = k') ∧ w2.ownsRow w.heap.size 22 1 v2 k' (its.map itVal) ∧ Hid (ItsOk w2 w.heap.size v2 its) ∧ Hid (its.map (·.2.2) = (l.take k').map numBox) ∧ w.grownBy w2 none := by
            refine ⟨k + 1, its ++ [(a5, c5, numBox lk)], by omega, by go_num, by show _ = _; rw [List.length_append, HI.out]; rfl, ?_, ?_, ?_, gb_row (gb_alloc G1 _) hg2 (fun i hi => (hown.lt i hi).1)⟩
            · rw [List.map_append]
              exact hown2
            · refine ItsOk.more HOk.out (gb_alloc hg1 _) hg2 hsz (fun g hg => (hown.lt g hg).2) ?_ (hat5.below (World.grownBy_alloc w1 _ none)) hnc5.out (fun b off e => by have := hb5 b off e; simp; omega)
              rcases hblk.out with h | h
              · exact .inl h
              · exact .inr ⟨_, h, by simp⟩
            · show _ = _
              rw [List.map_append, HM.out, HT.out, List.map_append]
              rfl
          clear hown hown1 hown2 hownN hg1 hg2 hgr hat5 hb5 hblk hcells G1
          go_wp2
          go_roundw
          case rel => exact R
          case measure => simp [intOf]; omega
        · have hkM : k = M := by omega
          subst hkM
          have HM2 : Hid (its.map (·.2.2) = l.map numBox) := by show _ = _; rw [HM.out, List.take_of_length_le (by rw [HLl.out]; exact Nat.le_refl _)]
          by_cases hkl : k < ln
          · have hkl' : (k : Int) < (ln : Int) := by omega
            have hk10 : ¬ (k : Int) < 10 := by omega
            clear hls2 hla2 hMc hMe
            go_wp2
            go_meet
            case rel => exact ⟨its, av, cv, rfl, HI, hown, HOk, HM2, hgr⟩
          · have hkl' : ¬ (k : Int) < (ln : Int) := by omega
            clear hls2 hla2 hMc hMe
            go_wp2
            go_meet
            case rel => exact ⟨its, av, cv, rfl, HI, hown, HOk, HM2, hgr⟩
    case rest =>
      obtain ⟨its, av, cv, rfl, HI, hownI, HOk, HM, hgr⟩ := hcut
      have hatB0 := hatB.below hgr
      have hNum := knumber_any v wc hv.1 hv.2
      go_wp2_with fail
      refine hNum.mono ?_
      rintro e w1 ⟨oN, rfl, hownN, hg1⟩
      obtain ⟨aN, cN, rfl, _, _, hncN, hatN⟩ := own_at2 hownN
      have G1 := gb_trans hgr hg1
      have hTx := ktext_any B nB a c w1 HNB (by omega) hnc (hatB.below G1)
      clear hNum hownN
      go_wp2_with fail
      refine hTx.mono ?_
      rintro e w2 ⟨oT, rfl, hownT, hg2⟩
      obtain ⟨aT, cT, rfl, _, _, hncT, hatT⟩ := own_at2 hownT
      have G2 := gb_trans G1 hg2
      have hnl := numsCat_length l
      rw [HLl.out] at hnl
      have hkc := kcat_nums its l HM.out
      have hItems : KItems w2 av its := by
        have h1 := ((HOk.out.grown hg1).grown hg2)
        have h2 := (hownI.kept hg1 (Classical.em _)).kept hg2 (Classical.em _)
        have h3 := HI.out
        subst h3
        exact h1.items h2 rfl
      have hLs := klist_any av cv M its w2 HI (by omega) (by rw [hkc]; omega) hItems
      rw [hkc] at hLs
      clear hTx hownT hItems hkc HOk hownI HM
      go_wp2_with fail
      refine hLs.mono ?_
      rintro e w3 ⟨oL, rfl, hownL, hg3⟩
      obtain ⟨aL, cL, rfl, _, _, hncL, hatL⟩ := own_at2 hownL
      have G3 := gb_trans G2 hg3
      have hatN3 := (hatN.below hg2).below hg3
      have hatT3 := hatT.below hg3
      obtain ⟨it3, hit3⟩ : ∃ it : List KIt, it = [(aN, cN, numBox v), (aT, cT, Box.box 4 B), (aL, cL, Box.box 48 (numsCat l))] := ⟨_, rfl⟩
      have hcat3 : kcat it3 = toldIn v B l := by rw [hit3]; simp [kcat, toldIn]
      have hX3 := toldIn_length v B l (by omega) (by rw [HLl.out]; exact hM10)
      have hItems3 : KItems (w3.alloc (.cells #[.slice aN (numBox v).length cN, .slice aT (Box.box 4 B).length cT, .slice aL (Box.box 48 (numsCat l)).length cL] 22)) (some ⟨w3.heap.size, 0, none⟩) it3 := by
        have K := fun o => World.grownBy_alloc w3 o none
        intro j hj
        subst hit3
        match j, hj with
        | 0, _ => exact ⟨w3.heap.size, rfl, by rw [World.cell?_alloc_at (hn := rfl)]; rfl, hatN3.below (K _), hncN.out⟩
        | 1, _ => exact ⟨w3.heap.size, rfl, by rw [World.cell?_alloc_at (hn := rfl)]; rfl, hatT3.below (K _), hncT.out⟩
        | 2, _ => exact ⟨w3.heap.size, rfl, by rw [World.cell?_alloc_at (hn := rfl)]; rfl, hatL.below (K _), hncL.out⟩
      have hLs2 := klist_any (some ⟨w3.heap.size, 0, none⟩) 3 3 it3 _ (by rw [hit3]; exact hid rfl) (by omega) (by rw [hcat3]; omega) hItems3
      rw [hcat3] at hLs2
      have G3a := gb_alloc G3 (.cells #[.slice aN (numBox v).length cN, .slice aT (Box.box 4 B).length cT, .slice aL (Box.box 48 (numsCat l)).length cL] 22)
      clear hLs hownL hItems3 hit3 hatN3 hatT3 hatN hatT hatL hncN hncT hncL
      go_wp2_with fail
      refine hLs2.mono ?_
      rintro e w4 ⟨oX, rfl, hownX, hg4⟩
      obtain ⟨X, hX⟩ : ∃ X, X = Box.box 48 (toldIn v B l) := ⟨_, rfl⟩
      rw [← hX] at hownX
      have G4 := gb_trans G3a hg4
      have hs3 := G3a.size
      have hownX4 := own_down hownX hs3
      obtain ⟨xa, xc, rfl, hxc, hxm, hncX, hatX⟩ := own_at2 hownX4
      obtain ⟨xn, hxn⟩ : ∃ n, n = X.length := ⟨_, rfl⟩
      have HXN : Hid (X.length = xn) := hxn.symm
      have hxn300 : xn ≤ 200 ∧ 8 ≤ xn := by
        rw [hxn, hX, Box.box_length]
        split
        · omega
        · split <;> omega
      obtain ⟨t, ht⟩ := told_shown v B l (by omega) (by rw [HLl.out]; exact hM10) hv hls2
      have hcut0 : Box.cut X = some (48, toldIn v B l, []) := by
        have := Box.cut_box 48 (toldIn v B l) [] (by omega)
        rw [List.append_nil, ← hX] at this
        exact this
      have hcut1 : Box.cut (X ++ [0]) = some (48, toldIn v B l, [0]) := by rw [hX]; exact Box.cut_box 48 (toldIn v B l) [0] (by omega)
      have hcut2 : Box.cut (X.take (xn - 1)) = none := by rw [hxn, hX]; exact Box.cut_less 48 (toldIn v B l) (by omega) (by omega)
      have HR1 : Hid (showRes (X ++ [0]) = .tuple #[.string ⟨#[]⟩, .int .i64 2]) := showRes_none (shown_rest hcut1)
      have HR2 : Hid (showRes (X.take (xn - 1)) = .tuple #[.string ⟨#[]⟩, .int .i64 2]) := showRes_none (shown_cut hcut2)
      have hxm' : xc ≤ 9223372036854775807 := by unfold maxLen at hxm; exact hxm
      rw [← hxn] at hownX4 hxc ⊢
      have hSh := kshown_any 48 (toldIn v B l) t X xn xa xc w4 HXN (by omega) hxc hxm' hatX (hid hcut0) (hid ht) (by omega) (tab_grown htab G4)
      clear hLs2 hownX hg4 hX hcut0 hcut1 hcut2 hxn G3a G3 G2 G1 hs3
      go_wp2_with fail
      refine hSh.mono ?_
      rintro e w5 ⟨kk, vv, a2, n2, c2, a3, n3, c3, rfl, hPart, hg5⟩
      obtain ⟨g, pc, ab, cb, a', c', hcs, hTP⟩ := told_part w.heap.size (by omega) (by rw [HLl.out]; exact hM10) hv hls2 hPart
      simp only [partCells, List.cons.injEq, Value.int.injEq, Value.slice.injEq, true_and, and_true] at hcs
      obtain ⟨rfl, rfl, ⟨rfl, rfl, rfl⟩, rfl, rfl, rfl⟩ := hcs
      have G5 := gb_trans G4 hg5
      have hownX5 := hownX4.kept hg5 (Classical.em _)
      clear hSh hPart
      have hTP5 := hTP.grown (World.grownBy_alloc w5 (.cells #[.int .u8 108, .int .i64 0, .slice none 0 0, .slice (some ⟨g, 0, none⟩) 3 c3] 30) none)
      have hIs := kis_any 0 none 0 0 g 3 c3 ⟨#[110, 116, 108]⟩ (w5.alloc (.cells #[.int .u8 108, .int .i64 0, .slice none 0 0, .slice (some ⟨g, 0, none⟩) 3 c3] 30)) rfl (by omega) (by
        intro k hk
        match k, hk with
        | 0, _ => exact ⟨110, hTP5.k0, fun _ => rfl⟩
        | 1, _ => exact ⟨116, hTP5.k1, fun _ => rfl⟩
        | 2, _ => exact ⟨108, hTP5.k2, fun _ => rfl⟩)
      have G5a := gb_alloc G5 (.cells #[.int .u8 108, .int .i64 0, .slice none 0 0, .slice (some ⟨g, 0, none⟩) 3 c3] 30)
      have hPV := Blk.new w5 #[.int .u8 108, .int .i64 0, .slice none 0 0, .slice (some ⟨g, 0, none⟩) 3 c3] 30
      have hownX5a := hownX5.alloc (.cells #[.int .u8 108, .int .i64 0, .slice none 0 0, .slice (some ⟨g, 0, none⟩) 3 c3] 30)
      go_wp2_with fail
      refine hIs.mono ?_
      rintro e w6 ⟨rfl, hg6⟩
      have G6 := gb_trans G5a hg6
      have hTP6 := hTP5.grown hg6
      have hPV6 := hPV.grown hg6 (by simp)
      have hownX6 := hownX5a.kept hg6 (Classical.em _)
      clear hIs hTP hTP5 hPV hownX5 hownX5a hownX4 hatX hg5 hg6 G5a G5 G4 hatB0
      have q3 := hPV6.cell 3
      simp only [List.getElem?_toArray, List.getElem?_cons_zero, List.getElem?_cons_succ] at q3
      have qv := hTP6.v0
      have qb := hTP6.b1
      rw [HNB.out] at qb
      have qp := hTP6.p2
      rw [HLl.out] at qp
      have hSm := ksame_any B nB ab a cb c w6 HNB hTP6.at1 (hatB.below G6)
      go_wp2_with fail
      refine hSm.mono ?_
      rintro e w' ⟨rfl, rfl⟩
      clear hSm
      clear q3 qv qb qp
      go_wp2_with fail
      go_loopw [12, 13] (fun isv i wr => ∃ k : Nat, k ≤ M ∧ i = .int .i64 k ∧ isv = .bool true ∧ w6.grownBy wr none) (fun _ i _ => M - (intOf i).toNat)
      case atStart => exact ⟨0, Nat.zero_le _, rfl, rfl, World.grownBy.refl _ _⟩
      case round =>
        obtain ⟨k, hk, rfl, rfl, hgr2⟩ := hrel
        by_cases hlt : k < M
        · have hlt' : k < l.length := by rw [HLl.out]; exact hlt
          have hkM : (k : Int) < (M : Int) := by omega
          have hk0 : (0 : Int) ≤ (k : Int) := by omega
          have hkl : (k : Int) < (ln : Int) := by omega
          have hTPr := hTP6.grown hgr2
          have hPVr := hPV6.grown hgr2 (by simp)
          have q3 := hPVr.cell 3
          simp only [List.getElem?_toArray, List.getElem?_cons_zero, List.getElem?_cons_succ] at q3
          have qp := hTPr.p2
          rw [HLl.out] at qp
          obtain ⟨g', rfl, e0, e1, e2, e3⟩ := hTPr.each k hlt'
          obtain ⟨lb, loff, rfl, hck⟩ := (hla2.below (gb_alloc (gb_trans G6 hgr2) (.cells #[.int .u8 110, .int .i64 l[k], .slice none 0 0, .slice none 0 0] 30))) k hlt'
          generalize l[k] = lk at e1 hck
          clear hTPr hPVr hla2 hls2
          go_wp2_with fail
          go_quiet (fail)
          go_wp2
          go_roundw
          case rel => exact ⟨k + 1, by omega, by go_num, rfl, gb_drewN (gb_alloc hgr2 _) _⟩
          case measure => simp [intOf]; omega
        · have hkM : ¬ (k : Int) < (M : Int) := by omega
          have G7 := gb_trans G6 hgr2
          have hownXr := hownX6.kept hgr2 (Classical.em _)
          have hs7 := G7.size
          clear hTP6 hPV6 hownX6 hla2 hls2
          go_wp2_with (at_builtin; refine wpList_append_keep _ rfl _ _ 22 rfl w.heap.size 5 i0 Tryd.underlying22 hif hz0 hz1 hz2 _ xn X rfl (hownXr.alloc _) ⟨wr.heap.size, 0, none⟩ 1 1 [0] rfl rfl ?a1 (by omega) ?a2 ?_)
          case a1 => exact bytes_new wr _ _ _ rfl
          case a2 => first | omega | (simp; omega)
          intro v7 w7 hown7 hg7 hkeep
          have hown7' : w7.ownsRow w.heap.size 5 1 v7 (xn + 1) ((X ++ [0]).map U8) := by simpa using hown7
          obtain ⟨a7, c7, rfl, hc7, hm7, _, hat7⟩ := own_at2 hown7'
          have hatX7 : At w7 xa X := by first | exact hkeep.out xa xc rfl | exact hkeep.out xc rfl | exact hkeep.out | simpa using hkeep.out
          have G7b : w.grownBy w7 none := gb_row (gb_alloc G7 _) hg7 (fun i hi => (hownXr.lt i hi).1)
          have hSw := wshow_any (X ++ [0]) (xn + 1) a7 c7 w7 (hid (by rw [List.length_append, HXN.out]; rfl)) hc7 (by unfold maxLen at hm7; exact hm7) hat7 (tab_grown htab G7b)
          rw [HR1.out] at hSw
          clear hownXr hown7 hown7' hg7 hkeep
          go_wp2_with fail
          refine hSw.mono ?_
          rintro e w8 ⟨rfl, hb8⟩
          have hg8 := gb_of_below hb8
          have G8 := gb_trans G7b hg8
          have hatX8 := hatX7.below hg8
          obtain ⟨a9, e9, hat9⟩ := slice_to 22 5 i0 Tryd.underlying22 hif hz1 xa xn xc HXN hxc (xn - 1) ((xn : Int) - 1) (by omega) (by omega)
          have hSw2 := wshow_any (X.take (xn - 1)) (xn - 1) a9 xc w8 (hid (by rw [List.length_take, HXN.out]; omega)) (by omega) hxm' (hat9 _ hatX8) (tab_grown htab G8)
          rw [HR2.out] at hSw2
          clear hSw hb8 hg8
          go_wp2_with fail
          refine hSw2.mono ?_
          rintro e w9 ⟨rfl, hb9⟩
          have G9 := gb_trans G8 (gb_of_below hb9)
          clear hSw2 hb9
          go_wp2
          go_ret
          exact ⟨rfl, gb_below G9⟩
end Go.Proofs.YtbanfbpfapjfcaaDoor
