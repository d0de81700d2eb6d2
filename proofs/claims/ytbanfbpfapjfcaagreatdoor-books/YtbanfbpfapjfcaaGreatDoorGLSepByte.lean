/-
  One list more, of one kind: what the world holds then. Conditions: in each statement.
  Contract of a list more, of one kind of elements: it gets a mark of its own, and so do three others begun at it. Conditions: the list has no spare room; nothing else lies in its memory.
  One list more, of one kind: what the world holds then. Conditions: in each statement.
-/
import Derived.Test.YtbanfbpfapjfcaaGreatDoorGLooks
import Derived.Test.YtbanfbpfapjfcaaGreatDoorGSep
namespace Go.Proofs.YtbanfbpfapjfcaaGreatDoor
open Go.RowKit
set_option maxRecDepth 100000
variable {PP QP : Type} {D : Desks PP QP} {base wb : Nat}

theorem SepW.byte {d : WD PP QP} {w w' : World} {gB : Option Nat} (h : SepW D base wb d w) (hg : ∀ g, gB = some g → base ≤ g ∧ g < w.heap.size ∧ ∀ j, ¬ WD.F D wb d j g) (k : LMore base wb 2 117 isMB gB d.bv d.cells d.eb w w') :
    (∃ x v, SepW D base wb { d with bv := v, eb := d.eb ++ [x] } w' ∧ ∀ j b, WD.F D wb { d with bv := v, eb := d.eb ++ [x] } j b → WD.F D wb d j b ∨ gB = some b ∨ w.heap.size ≤ b) ∧ Below base w w' := by
  obtain ⟨x, v, hmk, h1, h2, h3, h4, h5, h6⟩ := k
  have z := h4.size
  have hroom := h.room
  have hnew : ∀ b, w.heap.size ≤ b → ∀ j, ¬ WD.F D wb d j b := fun b hb j hj => by have := h.lt j b hj; omega
  have hex : ∀ b, (b = wb ∨ d.bv.ownBlock = some b ∨ gB = some b) → (∃ k, (k = 0 ∨ k = 3 ∨ k = 4) ∧ WD.F D wb d k b) ∨ ∀ j, ¬ WD.F D wb d j b := by
    rintro b (e | e | e)
    · exact .inl ⟨0, .inl rfl, e⟩
    · exact .inl ⟨3, .inr (.inl rfl), e⟩
    · exact .inr (hg b e).2.2
  have hent : ∀ y ∈ d.eb, ∀ b, y.on b → WD.F D wb d 4 b := fun y hy b hb => ⟨y, hy, hb⟩
  have hvn : ∀ b, v.ownBlock = some b → WD.F D wb d 3 b ∨ w.heap.size ≤ b := h5
  have hwb : WD.F D wb d 0 wb := rfl
  have hxn : ∀ b, x.on b → base ≤ b ∧ ∀ j, ¬ WD.F D wb d j b := fun b hb => by
    rcases (h6 b hb).2.2 with e | e
    · exact ⟨(hg b e).1, (hg b e).2.2⟩
    · exact ⟨by omega, hnew b e⟩
  refine ⟨⟨x, v, Sep.acts (WD.loc D base wb) h (fun k => k = 0 ∨ k = 3 ∨ k = 4) _ h4 hex ?_ ?_ ?_ ?_, ?_⟩, h4.below hroom ?_⟩
  · rintro k (rfl | rfl | rfl)
    · exact h1
    · show w'.ownsRow base 117 5 v (d.eb ++ [x]).length (evCells (d.eb ++ [x]))
      rw [List.length_append]
      exact h2
    · intro y hy
      rcases List.mem_append.1 hy with hy | hy
      · have hold := h.here 4 y hy
        refine ⟨hold.1.keep (fun b hb => h4.block b (h.lt _ b (hent y hy b hb)) ?_), hold.2⟩
        rintro (e | e | e)
        · have := h.one 4 0 b (hent y hy b hb) e; omega
        · have := h.one 4 3 b (hent y hy b hb) e; omega
        · exact (hg b e).2.2 _ (hent y hy b hb)
      · rw [List.mem_singleton.1 hy]; exact ⟨h3, hmk⟩
  · rintro k b (rfl | rfl | rfl) hb
    · have e : b = wb := hb
      subst e
      exact ⟨h.base 0 b hwb, h1.lt, .inl ⟨0, .inl rfl, hwb⟩⟩
    · have e : v.ownBlock = some b := hb
      refine ⟨(h2.lt b e).1, (h2.lt b e).2, ?_⟩
      rcases hvn b e with e2 | e2
      · exact .inl ⟨3, .inr (.inl rfl), e2⟩
      · exact .inr (hnew b e2)
    · obtain ⟨y, hy, hb⟩ := hb
      rcases List.mem_append.1 hy with hy | hy
      · have e := hent y hy b hb
        exact ⟨h.base _ b e, by have := h.lt _ b e; omega, .inl ⟨4, .inr (.inr rfl), e⟩⟩
      · rw [List.mem_singleton.1 hy] at hb
        exact ⟨(hxn b hb).1, h3.lt hb, .inr (hxn b hb).2⟩
  · have h03 : v.ownBlock ≠ some wb := fun e => by
      rcases hvn wb e with e2 | e2
      · have := h.one 0 3 wb hwb e2; omega
      · exact hnew wb e2 0 hwb
    have h04 : ¬ Ents.on (d.eb ++ [x]) wb := by
      rintro ⟨y, hy, hb⟩
      rcases List.mem_append.1 hy with hy | hy
      · have := h.one 0 4 wb hwb (hent y hy wb hb); omega
      · rw [List.mem_singleton.1 hy] at hb; exact (h6 wb hb).1 rfl
    have h34 : ∀ b, v.ownBlock = some b → ¬ Ents.on (d.eb ++ [x]) b := by
      rintro b e ⟨y, hy, hb⟩
      rcases List.mem_append.1 hy with hy | hy
      · rcases hvn b e with e2 | e2
        · have := h.one 3 4 b e2 (hent y hy b hb); omega
        · exact hnew b e2 _ (hent y hy b hb)
      · rw [List.mem_singleton.1 hy] at hb; exact (h6 b hb).2.1 e
    rintro i j b (rfl | rfl | rfl) (rfl | rfl | rfl) hi hj
    · rfl
    · have e : b = wb := hi; subst e; exact absurd hj h03
    · have e : b = wb := hi; subst e; exact absurd hj h04
    · have e : b = wb := hj; subst e; exact absurd hi h03
    · rfl
    · exact absurd hj (h34 b hi)
    · have e : b = wb := hj; subst e; exact absurd hi h04
    · exact absurd hi (h34 b hj)
    · rfl
  · intro j hj
    have n0 : j ≠ 0 := fun e => hj (.inl e)
    have n1 : j ≠ 3 := fun e => hj (.inr (.inl e))
    have n2 : j ≠ 4 := fun e => hj (.inr (.inr e))
    match j, n0, n1, n2 with
    | 1, _, _, _ => exact ⟨fun q => q, fun _ q => q⟩
    | 2, _, _, _ => exact ⟨fun q => q, fun _ q => q⟩
    | 3, _, n1, _ => first | exact absurd rfl n1 | exact ⟨fun q => q, fun _ q => q⟩
    | 4, _, _, n2 => first | exact absurd rfl n2 | exact ⟨fun q => q, fun _ q => q⟩
    | 5, _, n1, _ => first | exact absurd rfl n1 | exact ⟨fun q => q, fun _ q => q⟩
    | 6, _, _, n2 => first | exact absurd rfl n2 | exact ⟨fun q => q, fun _ q => q⟩
    | 7, _, n1, _ => first | exact absurd rfl n1 | exact ⟨fun q => q, fun _ q => q⟩
    | 8, _, _, n2 => first | exact absurd rfl n2 | exact ⟨fun q => q, fun _ q => q⟩
    | 9, _, _, _ => exact ⟨fun q => q, fun _ q => q⟩
    | 10, _, _, _ => exact ⟨fun q => q, fun _ q => q⟩
    | k + 11, _, _, _ => exact ⟨fun q => q, fun _ q => q⟩
  · intro j b hb
    by_cases e1 : j = 3
    · subst e1
      rcases hvn b hb with e | e
      · exact .inl e
      · exact .inr (.inr e)
    · by_cases e2 : j = 4
      · subst e2
        obtain ⟨y, hy, hb⟩ := hb
        rcases List.mem_append.1 hy with hy | hy
        · exact .inl (hent y hy b hb)
        · rw [List.mem_singleton.1 hy] at hb
          exact .inr (h6 b hb).2.2
      · left
        match j, e1, e2 with
        | 0, _, _ => exact hb
        | 1, _, _ => exact hb
        | 2, _, _ => exact hb
        | 3, n1, _ => first | exact absurd rfl n1 | exact hb
        | 4, _, n2 => first | exact absurd rfl n2 | exact hb
        | 5, n1, _ => first | exact absurd rfl n1 | exact hb
        | 6, _, n2 => first | exact absurd rfl n2 | exact hb
        | 7, n1, _ => first | exact absurd rfl n1 | exact hb
        | 8, _, n2 => first | exact absurd rfl n2 | exact hb
        | 9, _, _ => exact hb
        | 10, _, _ => exact hb
        | k + 11, _, _ => exact hb
  · rintro b (e | e | e)
    · rw [e]; exact h.base 0 wb hwb
    · exact h.base 3 b e
    · exact (hg b e).1
end Go.Proofs.YtbanfbpfapjfcaaGreatDoor
namespace Go.Proofs.YtbanfbpfapjfcaaGreatDoor
open Go.RowKit
set_option maxRecDepth 100000

theorem Tryz.lElint : (Tryz.prog.info? 3).map (fun i => (i.zero, i.size, i.bytes)) = some (some (.int .i64 0), 1, 8) := by kernel_rfl
theorem Tryz.lEntint : (Tryz.prog.info? 120).map (fun i => (i.zero, i.size, i.bytes)) = some (some (.agg #[.slice none 0 0, .slice none 0 0, .slice none 0 0, .slice none 0 0, .int .i64 0]), 5, 104) := by kernel_rfl

set_option maxHeartbeats 2000000 in
theorem lint_V (base wb n : Nat) (a : Option Addr) (vs : List Value) (ents : List EntV) (vb : Value) (cs : Array Value) (gB : Option Nat) (w : World)
    (hW : Blk w wb cs) (hcs : cs[3]? = some vb) (hrow : w.ownsRow base 120 5 vb ents.length (evCells ents)) (hne : vb.ownBlock ≠ some wb) (hbase : base ≤ w.heap.size) (hn : Hid (vs.length = n)) (hnl : n ≤ 100000) (ha : Hid (a = none → n = 0))
    (hB : Hid ((n = 0 ∧ gB = none) ∨ ∃ g, gB = some g ∧ a = some ⟨g, 0, none⟩ ∧ 0 < n ∧ Blk w g vs.toArray ∧ g ≠ wb ∧ vb.ownBlock ≠ some g)) (hll : (ents.length + 1) * 112 ≤ 140737488355328) :
    Calls Tryz.prog 83 #[.pointer (some ⟨wb, 2, none⟩), .slice a n n] w fun e w' => e = .returned (.tuple #[]) ∧ LMore base wb 3 120 isMI gB vb cs ents w w' := by
  obtain ⟨i0, hif, hz0, hz1, hz2⟩ := info_parts Tryz.lElint
  obtain ⟨ie, hie, he0, he1, he2⟩ := info_parts Tryz.lEntint
  obtain ⟨ab, cb, hvb⟩ := own_shape hrow
  subst hvb
  have hc2 : w.cell? ⟨wb, 3, none⟩ = some (.slice ab ents.length cb) := (hW.cell 3).trans hcs
  have hlb : ents.length ≤ 140737488355328 := by omega

  obtain ⟨m, hm⟩ : ∃ m : Int, m = -1000 - (ents.length : Int) := ⟨_, rfl⟩
  have HM := hid hm.symm
  clear hm
  obtain ⟨w0, hw0⟩ : ∃ w0, w0 = w := ⟨_, rfl⟩
  have G00 : w.grownBy w0 none := by rw [hw0]; exact World.grownBy.refl _ _
  go_enter Tryz.func83, Tryz.ntmps83
  go_wp2
  rw [HM.out]
  rw [← hw0]
  clear hw0



  have hs0 := G00.size
  go_loopw [5] (fun i wr => ∃ k : Nat, k ≤ n ∧ i = .int .i64 k ∧ w.grownBy wr gB ∧ (∀ g, gB = some g → Blk wr g (List.replicate k (.int .i64 m : Value) ++ vs.drop k).toArray)) (fun i _ => n - (intOf i).toNat)
  case atStart =>
    refine ⟨0, Nat.zero_le _, rfl, gb_none G00, ?_⟩
    intro g hg
    rcases hB.out with ⟨h1, h2⟩ | ⟨g', h1, h2, h3, h4, _⟩
    · rw [h2] at hg; cases hg
    · rw [h1] at hg; cases hg
      simpa using h4.grown G00 (by simp)
  case round =>
    obtain ⟨k, hk, rfl, hgr, hbf⟩ := hrel
    by_cases hlt : k < n
    · obtain ⟨g, hg1, hg2⟩ : ∃ g, gB = some g ∧ a = some ⟨g, 0, none⟩ := by
        rcases hB.out with ⟨h1, h2⟩ | ⟨g, h1, h2, _⟩
        · omega
        · exact ⟨g, h1, h2⟩
      have hbr := hbf g hg1
      subst hg1 hg2
      have hkl : k < (List.replicate k (.int .i64 m : Value) ++ vs.drop k).length := by have h := hn.out; simp; omega
      obtain ⟨u, hu⟩ : ∃ u, (List.replicate k (.int .i64 m : Value) ++ vs.drop k)[k]? = some u := ⟨_, List.getElem?_eq_getElem hkl⟩
      have hck : wr.cell? ⟨g, k, none⟩ = some u := (hbr.cell k).trans (by simpa using hu)
      have hfk := hbr.frozen k
      have R : Blk (wr.setCell ⟨g, k, none⟩ (.int .i64 m : Value)) g (List.replicate (k + 1) (.int .i64 m : Value) ++ vs.drop (k + 1)).toArray := by
        have := hbr.set k (.int .i64 m : Value)
        rw [← rep_set vs (.int .i64 m : Value) k (by rw [hn.out]; exact hlt)]
        simpa using this
      have G := gb_set0 (j := k) (u := (.int .i64 m : Value)) hgr
      clear hbf hgr hbr hu hkl
      go_wp2
      go_roundw
      case rel => exact ⟨k + 1, by omega, by go_num, G, fun g hg => by cases hg; exact R⟩
      case measure => simp [intOf]; omega
    · have hkn : k = n := by omega
      subst hkn
      have hatm : CAt wr a (List.replicate k (.int .i64 m : Value)) := by
        rcases hB.out with ⟨h1, h2⟩ | ⟨g, h1, h2, _⟩
        · subst h1; intro j u hu; simp at hu
        · have hbr := hbf g h1
          rw [List.drop_of_length_le (by rw [hn.out]; omega), List.append_nil] at hbr
          rw [h2]
          exact hbr.cat
      have Hrl : Hid ((List.replicate k (.int .i64 m : Value)).length = k) := List.length_replicate
      have hb1 : k + 1 ≤ 1000000 := by omega
      have hb2 : k + 2 ≤ 1000000 := by omega
      have hone1 : ∀ u ∈ [(.int .i64 m : Value)], u.oneCell' = true := by intro u hu; rw [List.mem_singleton.1 hu]; rfl
      have hone2 : ∀ u ∈ [(.int .i64 m : Value), (.int .i64 m : Value)], u.oneCell' = true := by intro u hu; simp at hu; rw [hu]; rfl
      have Hone1 := hid hone1
      have Hone2 := hid hone2
      clear hbf hc2 hone1 hone2
      go_wp2_with (first | (at_builtin; refine wpList_grow1 _ rfl (.tmp 26) (.tmp 28) 24 rfl 3 i0 _ 8 Tryz.underlying24 hif hz0 hz1 hz2 rfl a k (List.replicate k (.int .i64 m : Value)) rfl Hrl.out ha.out (hatm.below (World.grownBy_alloc _ _ _)) wr.heap.size 1 [(.int .i64 m : Value)] rfl (Nat.succ_pos _) (cat_new wr _ _) Hone1.out hb1 (by decide) ?_; intro v1 w1 hown1 hg1; have K1 := gb_trans (World.grownBy_alloc wr _ none) hg1; have hat1 := hatm.below K1) | (at_builtin; refine wpList_grow1 _ rfl (.tmp 30) (.tmp 33) 24 rfl 3 i0 _ 8 Tryz.underlying24 hif hz0 hz1 hz2 rfl a k (List.replicate k (.int .i64 m : Value)) rfl Hrl.out ha.out (hat1.below (World.grownBy_alloc _ _ _)) w1.heap.size 2 [(.int .i64 m : Value), (.int .i64 m : Value)] rfl (Nat.succ_pos _) (cat_new w1 _ _) Hone2.out hb2 (by decide) ?_; intro v2 w2 hown2 hg2; have K2 := gb_trans (World.grownBy_alloc w1 _ none) hg2; have hat2 := hat1.below K2))
      have hown1' := hown1.kept K2 (by cases h : v1.ownBlock <;> simp)
      have K12 := gb_trans K1 K2
      have hszA := K1.size
      have hszB := K2.size
      have hszC := hgr.size
      clear hown1 hg1 hg2 hatm hat1 K1 K2
      obtain ⟨wo, hwo⟩ : ∃ wo, wo = wr := ⟨wr, rfl⟩
      subst hwo
      go_loopw [8, 9] (fun o i w3 => ∃ j : Nat, j ≤ 64 ∧ i = .int .i64 j ∧ ((j = 0 ∧ o = .slice a k k) ∨ (0 < j ∧ w3.ownsRow w2.heap.size 3 1 o (k + j) (List.replicate (k + j) (.int .i64 m : Value)))) ∧ w2.grownBy w3 none) (fun _ i _ => 64 - (intOf i).toNat)
      case atStart => exact ⟨0, by omega, rfl, .inl ⟨rfl, rfl⟩, World.grownBy.refl _ _⟩
      case round =>
        obtain ⟨j, hj, rfl, ho, hg3⟩ := hrel
        have hsz3 := hg3.size
        by_cases hlt64 : j < 64
        · have hbj : k + j + 1 ≤ maxLen := by unfold maxLen; omega
          have hbj2 : (k + j + 1) * 8 ≤ 140737488355328 := by omega
          rcases ho with ⟨hj0, ho0⟩ | ⟨hj0, hown3⟩
          · subst hj0 ho0
            have hat3 := hat2.below hg3
            go_wp2_with (at_builtin; refine wpList_grow1 _ rfl _ _ 24 rfl 3 i0 _ 8 Tryz.underlying24 hif hz0 hz1 hz2 rfl a k (List.replicate k (.int .i64 m : Value)) rfl Hrl.out ha.out (hat3.below (World.grownBy_alloc _ _ _)) wr.heap.size 1 [(.int .i64 m : Value)] rfl (Nat.succ_pos _) (cat_new wr _ _) Hone1.out hb1 (by decide) ?_; intro v4 w4 hown4 hg4)
            have R : w4.ownsRow w2.heap.size 3 1 v4 (k + 1) (List.replicate (k + 1) (.int .i64 m : Value)) ∧ w2.grownBy w4 none := ⟨own_base (by rw [← cat_rep]; exact hown4) (by simp; omega), gb_trans (gb_alloc hg3 _) hg4⟩
            clear hown4 hg4 hat3 hg3
            go_wp2
            go_roundw
            case rel => exact ⟨1, by omega, by go_num, .inr ⟨by omega, R.1⟩, R.2⟩
            case measure => simp [intOf]
          · have hcn := cat_new wr #[(.int .i64 m : Value)] 3
            go_wp2_with (at_builtin; refine wpList_append_any _ rfl _ _ 24 rfl w2.heap.size 3 i0 _ 1 8 Tryz.underlying24 hif hz0 hz1 hz2 rfl (by decide) _ _ _ rfl (hown3.alloc _) (some ⟨wr.heap.size, 0, none⟩) 1 1 [(.int .i64 m : Value)] rfl rfl hcn (by intro h; cases h) Hone1.out hbj hbj2 (by simp; omega) ?_; intro v4 w4 hown4 hg4)
            have R : w4.ownsRow w2.heap.size 3 1 v4 (k + (j + 1)) (List.replicate (k + (j + 1)) (.int .i64 m : Value)) ∧ w2.grownBy w4 none := ⟨by rw [← Nat.add_assoc, ← cat_rep (k + j) 1 (.int .i64 m : Value)]; exact hown4, gb_row (gb_alloc hg3 _) hg4 (fun i hi => (hown3.lt i hi).1)⟩
            clear hown4 hg4 hg3 hown3 hcn
            go_wp2
            go_roundw
            case rel => exact ⟨j + 1, by omega, by go_num, .inr ⟨by omega, R.1⟩, R.2⟩
            case measure => simp [intOf]; omega
        · have hj64 : j = 64 := by omega
          subst hj64
          have hown3 : wr.ownsRow w2.heap.size 3 1 u8 (k + 64) (List.replicate (k + 64) (.int .i64 m : Value)) := by
            rcases ho with ⟨h, _⟩ | ⟨_, h⟩
            · omega
            · exact h
          clear ho hlt64 hj
          have K3 := gb_trans K12 hg3
          have hown1x := hown1'.kept hg3 (by cases h : v1.ownBlock <;> simp)
          have hown2x := hown2.kept hg3 (by cases h : v2.ownBlock <;> simp)
          have hat3 := hat2.below hg3
          clear hown1' hown2 hat2 hg3
          have Fo : Frm w wo (fun b => gB = some b) := Frm.of_gb hgr
          have Fr : Frm w wr (fun b => gB = some b) := Fo.trans (Frm.of_none K3 _)
          have hwbw := hW.lt
          have hgne : ∀ g, gB = some g → g ≠ wb ∧ (Value.slice ab ents.length cb).ownBlock ≠ some g := by
            intro g hg
            rcases hB.out with ⟨_, h2⟩ | ⟨g', h1, _, _, _, h5, h6⟩
            · rw [h2] at hg; cases hg
            · rw [h1] at hg; cases hg; exact ⟨h5, h6⟩
          have hWr : Blk wr wb cs := hW.kept (Fr.block wb hwbw (fun e => (hgne _ e).1 rfl))
          have hrowr : wr.ownsRow base 120 5 (.slice ab ents.length cb) ents.length (evCells ents) := own_keep hrow (fun b hb => Fr.block b (hrow.lt b hb).2 (fun e => (hgne _ e).2 hb))
          have hszR := K3.size
          obtain ⟨⟨p1, n1, c1⟩, hv1, hn1, hm1, hb1'⟩ := own_markedV (n := k + 1) (m := (.int .i64 m : Value)) (by rw [← cat_rep]; exact hown1x) (by omega)
          obtain ⟨⟨p2, n2, c2⟩, hv2, hn2, hm2, hb2'⟩ := own_markedV (n := k + 2) (m := (.int .i64 m : Value)) (by rw [← cat_rep]; exact hown2x) (by omega)
          obtain ⟨⟨p3, n3, c3⟩, hv3, hn3, hm3, hb3'⟩ := own_markedV (n := k + 64) (m := (.int .i64 m : Value)) hown3 (by omega)
          change v1 = .slice p1 n1 c1 at hv1
          change v2 = .slice p2 n2 c2 at hv2
          change u8 = .slice p3 n3 c3 at hv3
          subst hv1 hv2 hv3
          obtain ⟨x, hx⟩ : ∃ x : EntV, x = ⟨(a, k, k), (p1, n1, c1), (p2, n2, c2), (p3, n3, c3), (.int .i64 m : Value)⟩ := ⟨_, rfl⟩
          have hxok : x.ok wr := by subst hx; exact ⟨⟨by show k ≤ _; omega, hat3⟩, hm1, hm2, hm3⟩
          have HX : Hid (x.cells = [.slice a k k, .slice p1 n1 c1, .slice p2 n2 c2, .slice p3 n3 c3, (.int .i64 m : Value)]) := by subst hx; rfl
          have HMK : Hid (isMI x.mark) := by subst hx; exact ⟨_, rfl⟩
          have HXO : XOn x gB w.heap.size := by
            intro b hb
            rw [hx] at hb
            rcases hb with h | h | h | h
            · obtain ⟨off, e1, e2⟩ := h
              rcases hB.out with ⟨h1, _⟩ | ⟨g, h1, h2, _⟩
              · have e2' : 0 < k := e2; omega
              · have e1' : a = some ⟨b, off, none⟩ := e1
                rw [h2] at e1'
                simp at e1'
                exact .inl (by rw [h1, e1'.1])
            · have := (hb1' b h).2; simp at this; exact .inr (by omega)
            · have := (hb2' b h).2; simp at this; exact .inr (by omega)
            · have := (hb3' b h).2; exact .inr (by omega)
          have hll1 : ents.length + 1 ≤ maxLen := by unfold maxLen; omega
          have hll2 : (ents.length + 1) * 104 ≤ 140737488355328 := by omega
          have hbr : base ≤ wr.heap.size := by omega
          have hcr : wr.cell? ⟨wb, 3, none⟩ = some (.slice ab ents.length cb) := (hWr.cell 3).trans hcs
          have Hgne := hid hgne
          clear hx hm1 hm2 hm3 hb1' hb2' hb3' hown1x hown2x hown3 hat3 hn1 hn2 hn3 hgne
          go_wp2_with (at_builtin; refine wpList_append_blk _ rfl _ _ 68 rfl base 120 ie _ 5 104 Tryz.underlying68 hie he0 he1 he2 rfl (by decide) _ _ _ rfl (hrowr.alloc _) ⟨wr.heap.size, 0, none⟩ 1 1 [.slice a k k, .slice p1 n1 c1, .slice p2 n2 c2, .slice p3 n3 c3, (.int .i64 m : Value)] rfl rfl (cells_new wr _ _) (by intro u hu; simp at hu; rcases hu with rfl | rfl | rfl | rfl | rfl <;> rfl) (by omega) hll1 hll2 (by simp; omega) ?_; intro vb' w5 hown5 hg5 hblk; obtain ⟨ab', cb', hvb'⟩ := own_shape hown5; subst hvb'; have h5w := (hWr.alloc (.cells #[.slice a k k, .slice p1 n1 c1, .slice p2 n2 c2, .slice p3 n3 c3, (.int .i64 m : Value)] 120)).grown hg5 (fun e => hne e.symm); have hc5 : w5.cell? ⟨wb, 3, none⟩ = some (.slice ab ents.length cb) := ((h5w.cell 3).trans hcs); have hf5 := h5w.frozen 3)
          have R : LMore base wb 3 120 isMI gB (.slice ab ents.length cb) cs ents w (w5.setCell ⟨wb, 3, none⟩ (.slice ab' (ents.length + 1) cb')) := LMore.push hrow.lt hne hwbw Fr hxok HX.out HXO Hgne.out (World.grownBy_alloc wr _ _) hg5 h5w hown5 hblk.out HMK.out
          clear hblk hown5 hg5 h5w
          go_end0
          exact ⟨rfl, R⟩
end Go.Proofs.YtbanfbpfapjfcaaGreatDoor
namespace Go.Proofs.YtbanfbpfapjfcaaGreatDoor
open Go.RowKit
set_option maxRecDepth 100000
variable {PP QP : Type} {D : Desks PP QP} {base wb : Nat}

theorem SepW.int {d : WD PP QP} {w w' : World} {gB : Option Nat} (h : SepW D base wb d w) (hg : ∀ g, gB = some g → base ≤ g ∧ g < w.heap.size ∧ ∀ j, ¬ WD.F D wb d j g) (k : LMore base wb 3 120 isMI gB d.iv d.cells d.ei w w') :
    (∃ x v, SepW D base wb { d with iv := v, ei := d.ei ++ [x] } w' ∧ ∀ j b, WD.F D wb { d with iv := v, ei := d.ei ++ [x] } j b → WD.F D wb d j b ∨ gB = some b ∨ w.heap.size ≤ b) ∧ Below base w w' := by
  obtain ⟨x, v, hmk, h1, h2, h3, h4, h5, h6⟩ := k
  have z := h4.size
  have hroom := h.room
  have hnew : ∀ b, w.heap.size ≤ b → ∀ j, ¬ WD.F D wb d j b := fun b hb j hj => by have := h.lt j b hj; omega
  have hex : ∀ b, (b = wb ∨ d.iv.ownBlock = some b ∨ gB = some b) → (∃ k, (k = 0 ∨ k = 5 ∨ k = 6) ∧ WD.F D wb d k b) ∨ ∀ j, ¬ WD.F D wb d j b := by
    rintro b (e | e | e)
    · exact .inl ⟨0, .inl rfl, e⟩
    · exact .inl ⟨5, .inr (.inl rfl), e⟩
    · exact .inr (hg b e).2.2
  have hent : ∀ y ∈ d.ei, ∀ b, y.on b → WD.F D wb d 6 b := fun y hy b hb => ⟨y, hy, hb⟩
  have hvn : ∀ b, v.ownBlock = some b → WD.F D wb d 5 b ∨ w.heap.size ≤ b := h5
  have hwb : WD.F D wb d 0 wb := rfl
  have hxn : ∀ b, x.on b → base ≤ b ∧ ∀ j, ¬ WD.F D wb d j b := fun b hb => by
    rcases (h6 b hb).2.2 with e | e
    · exact ⟨(hg b e).1, (hg b e).2.2⟩
    · exact ⟨by omega, hnew b e⟩
  refine ⟨⟨x, v, Sep.acts (WD.loc D base wb) h (fun k => k = 0 ∨ k = 5 ∨ k = 6) _ h4 hex ?_ ?_ ?_ ?_, ?_⟩, h4.below hroom ?_⟩
  · rintro k (rfl | rfl | rfl)
    · exact h1
    · show w'.ownsRow base 120 5 v (d.ei ++ [x]).length (evCells (d.ei ++ [x]))
      rw [List.length_append]
      exact h2
    · intro y hy
      rcases List.mem_append.1 hy with hy | hy
      · have hold := h.here 6 y hy
        refine ⟨hold.1.keep (fun b hb => h4.block b (h.lt _ b (hent y hy b hb)) ?_), hold.2⟩
        rintro (e | e | e)
        · have := h.one 6 0 b (hent y hy b hb) e; omega
        · have := h.one 6 5 b (hent y hy b hb) e; omega
        · exact (hg b e).2.2 _ (hent y hy b hb)
      · rw [List.mem_singleton.1 hy]; exact ⟨h3, hmk⟩
  · rintro k b (rfl | rfl | rfl) hb
    · have e : b = wb := hb
      subst e
      exact ⟨h.base 0 b hwb, h1.lt, .inl ⟨0, .inl rfl, hwb⟩⟩
    · have e : v.ownBlock = some b := hb
      refine ⟨(h2.lt b e).1, (h2.lt b e).2, ?_⟩
      rcases hvn b e with e2 | e2
      · exact .inl ⟨5, .inr (.inl rfl), e2⟩
      · exact .inr (hnew b e2)
    · obtain ⟨y, hy, hb⟩ := hb
      rcases List.mem_append.1 hy with hy | hy
      · have e := hent y hy b hb
        exact ⟨h.base _ b e, by have := h.lt _ b e; omega, .inl ⟨6, .inr (.inr rfl), e⟩⟩
      · rw [List.mem_singleton.1 hy] at hb
        exact ⟨(hxn b hb).1, h3.lt hb, .inr (hxn b hb).2⟩
  · have h03 : v.ownBlock ≠ some wb := fun e => by
      rcases hvn wb e with e2 | e2
      · have := h.one 0 5 wb hwb e2; omega
      · exact hnew wb e2 0 hwb
    have h04 : ¬ Ents.on (d.ei ++ [x]) wb := by
      rintro ⟨y, hy, hb⟩
      rcases List.mem_append.1 hy with hy | hy
      · have := h.one 0 6 wb hwb (hent y hy wb hb); omega
      · rw [List.mem_singleton.1 hy] at hb; exact (h6 wb hb).1 rfl
    have h34 : ∀ b, v.ownBlock = some b → ¬ Ents.on (d.ei ++ [x]) b := by
      rintro b e ⟨y, hy, hb⟩
      rcases List.mem_append.1 hy with hy | hy
      · rcases hvn b e with e2 | e2
        · have := h.one 5 6 b e2 (hent y hy b hb); omega
        · exact hnew b e2 _ (hent y hy b hb)
      · rw [List.mem_singleton.1 hy] at hb; exact (h6 b hb).2.1 e
    rintro i j b (rfl | rfl | rfl) (rfl | rfl | rfl) hi hj
    · rfl
    · have e : b = wb := hi; subst e; exact absurd hj h03
    · have e : b = wb := hi; subst e; exact absurd hj h04
    · have e : b = wb := hj; subst e; exact absurd hi h03
    · rfl
    · exact absurd hj (h34 b hi)
    · have e : b = wb := hj; subst e; exact absurd hi h04
    · exact absurd hi (h34 b hj)
    · rfl
  · intro j hj
    have n0 : j ≠ 0 := fun e => hj (.inl e)
    have n1 : j ≠ 5 := fun e => hj (.inr (.inl e))
    have n2 : j ≠ 6 := fun e => hj (.inr (.inr e))
    match j, n0, n1, n2 with
    | 1, _, _, _ => exact ⟨fun q => q, fun _ q => q⟩
    | 2, _, _, _ => exact ⟨fun q => q, fun _ q => q⟩
    | 3, _, n1, _ => first | exact absurd rfl n1 | exact ⟨fun q => q, fun _ q => q⟩
    | 4, _, _, n2 => first | exact absurd rfl n2 | exact ⟨fun q => q, fun _ q => q⟩
    | 5, _, n1, _ => first | exact absurd rfl n1 | exact ⟨fun q => q, fun _ q => q⟩
    | 6, _, _, n2 => first | exact absurd rfl n2 | exact ⟨fun q => q, fun _ q => q⟩
    | 7, _, n1, _ => first | exact absurd rfl n1 | exact ⟨fun q => q, fun _ q => q⟩
    | 8, _, _, n2 => first | exact absurd rfl n2 | exact ⟨fun q => q, fun _ q => q⟩
    | 9, _, _, _ => exact ⟨fun q => q, fun _ q => q⟩
    | 10, _, _, _ => exact ⟨fun q => q, fun _ q => q⟩
    | k + 11, _, _, _ => exact ⟨fun q => q, fun _ q => q⟩
  · intro j b hb
    by_cases e1 : j = 5
    · subst e1
      rcases hvn b hb with e | e
      · exact .inl e
      · exact .inr (.inr e)
    · by_cases e2 : j = 6
      · subst e2
        obtain ⟨y, hy, hb⟩ := hb
        rcases List.mem_append.1 hy with hy | hy
        · exact .inl (hent y hy b hb)
        · rw [List.mem_singleton.1 hy] at hb
          exact .inr (h6 b hb).2.2
      · left
        match j, e1, e2 with
        | 0, _, _ => exact hb
        | 1, _, _ => exact hb
        | 2, _, _ => exact hb
        | 3, n1, _ => first | exact absurd rfl n1 | exact hb
        | 4, _, n2 => first | exact absurd rfl n2 | exact hb
        | 5, n1, _ => first | exact absurd rfl n1 | exact hb
        | 6, _, n2 => first | exact absurd rfl n2 | exact hb
        | 7, n1, _ => first | exact absurd rfl n1 | exact hb
        | 8, _, n2 => first | exact absurd rfl n2 | exact hb
        | 9, _, _ => exact hb
        | 10, _, _ => exact hb
        | k + 11, _, _ => exact hb
  · rintro b (e | e | e)
    · rw [e]; exact h.base 0 wb hwb
    · exact h.base 5 b e
    · exact (hg b e).1
end Go.Proofs.YtbanfbpfapjfcaaGreatDoor
