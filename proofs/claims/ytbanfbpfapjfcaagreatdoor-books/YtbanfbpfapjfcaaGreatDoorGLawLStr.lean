/-
  Contract of a list more, of one kind of elements: it gets a mark of its own, and so do three others begun at it. Conditions: the list has no spare room; nothing else lies in its memory.
  One list more, of one kind: what the world holds then. Conditions: in each statement.
  One list more, of one kind, that lies in one new block without spare room. Conditions: in each statement.
-/
import Derived.Test.YtbanfbpfapjfcaaGreatDoorGSep
import Derived.Test.YtbanfbpfapjfcaaGreatDoorGLooks
import Derived.Test.YtbanfbpfapjfcaaGreatDoorGLaw6
namespace Go.Proofs.YtbanfbpfapjfcaaGreatDoor
open Go.RowKit
set_option maxRecDepth 100000

theorem Tryz.lElstr : (Tryz.prog.info? 9).map (fun i => (i.zero, i.size, i.bytes)) = some (some (.string ⟨#[]⟩), 1, 16) := by kernel_rfl
theorem Tryz.lEntstr : (Tryz.prog.info? 123).map (fun i => (i.zero, i.size, i.bytes)) = some (some (.agg #[.slice none 0 0, .slice none 0 0, .slice none 0 0, .slice none 0 0, .string ⟨#[]⟩]), 5, 112) := by kernel_rfl

set_option maxHeartbeats 2000000 in
theorem lstr_V (base wb n : Nat) (a : Option Addr) (vs : List Value) (ents : List EntV) (vb : Value) (cs : Array Value) (gB : Option Nat) (w : World)
    (hW : Blk w wb cs) (hcs : cs[4]? = some vb) (hrow : w.ownsRow base 123 5 vb ents.length (evCells ents)) (hne : vb.ownBlock ≠ some wb) (hbase : base ≤ w.heap.size) (hn : Hid (vs.length = n)) (hnl : n ≤ 100000) (ha : Hid (a = none → n = 0))
    (hB : Hid ((n = 0 ∧ gB = none) ∨ ∃ g, gB = some g ∧ a = some ⟨g, 0, none⟩ ∧ 0 < n ∧ Blk w g vs.toArray ∧ g ≠ wb ∧ vb.ownBlock ≠ some g)) (hll : (ents.length + 1) * 112 ≤ 140737488355328) :
    Calls Tryz.prog 82 #[.pointer (some ⟨wb, 2, none⟩), .slice a n n] w fun e w' => e = .returned (.tuple #[]) ∧ LMore base wb 4 123 isMS gB vb cs ents w w' := by
  obtain ⟨i0, hif, hz0, hz1, hz2⟩ := info_parts Tryz.lElstr
  obtain ⟨ie, hie, he0, he1, he2⟩ := info_parts Tryz.lEntstr
  obtain ⟨ab, cb, hvb⟩ := own_shape hrow
  subst hvb
  have hc2 : w.cell? ⟨wb, 4, none⟩ = some (.slice ab ents.length cb) := (hW.cell 4).trans hcs
  have hlb : ents.length ≤ 140737488355328 := by omega



  have hby : #[Value.int IntKind.u8 ((ents.length : Int) % 251), Value.int IntKind.u8 ((ents.length : Int) / 251 % 256)].toList = [UInt8.ofNat (ents.length % 251), UInt8.ofNat (ents.length / 251 % 256)].map U8 := by
    simp only [List.map_cons, List.map_nil, U8, UInt8.toNat_ofNat']
    rw [Nat.mod_eq_of_lt (show ents.length % 251 < 2 ^ 8 by omega), Nat.mod_eq_of_lt (show ents.length / 251 % 256 < 2 ^ 8 by omega)]
    simp
  have hat0 : At (w.alloc (.cells #[.int .u8 ((ents.length : Int) % 251), .int .u8 ((ents.length : Int) / 251 % 256)] 5)).drew (some ⟨w.heap.size, 0, none⟩) [UInt8.ofNat (ents.length % 251), UInt8.ofNat (ents.length / 251 % 256)] := bytes_new w 5 _ _ hby
  have hcv := run_string_of (P := Tryz.prog) (w.alloc (.cells #[.int .u8 ((ents.length : Int) % 251), .int .u8 ((ents.length : Int) / 251 % 256)] 5)).drew 32 9 5 Tryz.underlying32 Tryz.underlying5 Tryz.underlying9 (some ⟨w.heap.size, 0, none⟩) 2 [UInt8.ofNat (ents.length % 251), UInt8.ofNat (ents.length / 251 % 256)] hat0
  simp only [List.length_cons, List.length_nil, Nat.zero_add] at hcv
  obtain ⟨M, hM⟩ : ∃ M : ByteArray, M = ⟨[UInt8.ofNat (ents.length % 251), UInt8.ofNat (ents.length / 251 % 256)].toArray⟩ := ⟨_, rfl⟩
  rw [← hM] at hcv
  clear hM hby hat0
  obtain ⟨w0, hw0⟩ : ∃ w0, w0 = (w.alloc (.cells #[.int .u8 ((ents.length : Int) % 251), .int .u8 ((ents.length : Int) / 251 % 256)] 5)).drew := ⟨_, rfl⟩
  have G00 : w.grownBy w0 none := by rw [hw0]; exact gb_drew (World.grownBy_alloc w _ _)
  have HW0 := hid hw0
  clear hw0
  go_enter Tryz.func82, Tryz.ntmps82
  go_wp2_with fail
  go_region
  rw [← HW0.out]
  clear hcv HW0
  go_wp2

  have hs0 := G00.size
  go_loopw [5] (fun i wr => ∃ k : Nat, k ≤ n ∧ i = .int .i64 k ∧ w.grownBy wr gB ∧ (∀ g, gB = some g → Blk wr g (List.replicate k (.string M : Value) ++ vs.drop k).toArray)) (fun i _ => n - (intOf i).toNat)
  case atStart =>
    refine ⟨0, Nat.zero_le _, rfl, gb_none G00, ?_⟩
    intro g hg
    rcases hB.out with ⟨h1, h2⟩ | ⟨g', h1, h2, h3, h4, _⟩
    · rw [h2] at hg; cases hg
    · rw [h1] at hg; cases hg
      simpa using h4.grown G00 (by simp)
  case round =>
    obtain ⟨k, hk, rfl, hgr, hbf⟩ := hrel
    by_cases hlt : k < n
    · obtain ⟨g, hg1, hg2⟩ : ∃ g, gB = some g ∧ a = some ⟨g, 0, none⟩ := by
        rcases hB.out with ⟨h1, h2⟩ | ⟨g, h1, h2, _⟩
        · omega
        · exact ⟨g, h1, h2⟩
      have hbr := hbf g hg1
      subst hg1 hg2
      have hkl : k < (List.replicate k (.string M : Value) ++ vs.drop k).length := by have h := hn.out; simp; omega
      obtain ⟨u, hu⟩ : ∃ u, (List.replicate k (.string M : Value) ++ vs.drop k)[k]? = some u := ⟨_, List.getElem?_eq_getElem hkl⟩
      have hck : wr.cell? ⟨g, k, none⟩ = some u := (hbr.cell k).trans (by simpa using hu)
      have hfk := hbr.frozen k
      have R : Blk (wr.setCell ⟨g, k, none⟩ (.string M : Value)) g (List.replicate (k + 1) (.string M : Value) ++ vs.drop (k + 1)).toArray := by
        have := hbr.set k (.string M : Value)
        rw [← rep_set vs (.string M : Value) k (by rw [hn.out]; exact hlt)]
        simpa using this
      have G := gb_set0 (j := k) (u := (.string M : Value)) hgr
      clear hbf hgr hbr hu hkl
      go_wp2
      go_roundw
      case rel => exact ⟨k + 1, by omega, by go_num, G, fun g hg => by cases hg; exact R⟩
      case measure => simp [intOf]; omega
    · have hkn : k = n := by omega
      subst hkn
      have hatm : CAt wr a (List.replicate k (.string M : Value)) := by
        rcases hB.out with ⟨h1, h2⟩ | ⟨g, h1, h2, _⟩
        · subst h1; intro j u hu; simp at hu
        · have hbr := hbf g h1
          rw [List.drop_of_length_le (by rw [hn.out]; omega), List.append_nil] at hbr
          rw [h2]
          exact hbr.cat
      have Hrl : Hid ((List.replicate k (.string M : Value)).length = k) := List.length_replicate
      have hb1 : k + 1 ≤ 1000000 := by omega
      have hb2 : k + 2 ≤ 1000000 := by omega
      have hone1 : ∀ u ∈ [(.string M : Value)], u.oneCell' = true := by intro u hu; rw [List.mem_singleton.1 hu]; rfl
      have hone2 : ∀ u ∈ [(.string M : Value), (.string M : Value)], u.oneCell' = true := by intro u hu; simp at hu; rw [hu]; rfl
      have Hone1 := hid hone1
      have Hone2 := hid hone2
      clear hbf hc2 hone1 hone2
      go_wp2_with (first | (at_builtin; refine wpList_grow1 _ rfl (.tmp 36) (.tmp 38) 51 rfl 9 i0 _ 16 Tryz.underlying51 hif hz0 hz1 hz2 rfl a k (List.replicate k (.string M : Value)) rfl Hrl.out ha.out (hatm.below (World.grownBy_alloc _ _ _)) wr.heap.size 1 [(.string M : Value)] rfl (Nat.succ_pos _) (cat_new wr _ _) Hone1.out hb1 (by decide) ?_; intro v1 w1 hown1 hg1; have K1 := gb_trans (World.grownBy_alloc wr _ none) hg1; have hat1 := hatm.below K1) | (at_builtin; refine wpList_grow1 _ rfl (.tmp 40) (.tmp 43) 51 rfl 9 i0 _ 16 Tryz.underlying51 hif hz0 hz1 hz2 rfl a k (List.replicate k (.string M : Value)) rfl Hrl.out ha.out (hat1.below (World.grownBy_alloc _ _ _)) w1.heap.size 2 [(.string M : Value), (.string M : Value)] rfl (Nat.succ_pos _) (cat_new w1 _ _) Hone2.out hb2 (by decide) ?_; intro v2 w2 hown2 hg2; have K2 := gb_trans (World.grownBy_alloc w1 _ none) hg2; have hat2 := hat1.below K2))
      have hown1' := hown1.kept K2 (by cases h : v1.ownBlock <;> simp)
      have K12 := gb_trans K1 K2
      have hszA := K1.size
      have hszB := K2.size
      have hszC := hgr.size
      clear hown1 hg1 hg2 hatm hat1 K1 K2
      obtain ⟨wo, hwo⟩ : ∃ wo, wo = wr := ⟨wr, rfl⟩
      subst hwo
      go_loopw [8, 9] (fun o i w3 => ∃ j : Nat, j ≤ 64 ∧ i = .int .i64 j ∧ ((j = 0 ∧ o = .slice a k k) ∨ (0 < j ∧ w3.ownsRow w2.heap.size 9 1 o (k + j) (List.replicate (k + j) (.string M : Value)))) ∧ w2.grownBy w3 none) (fun _ i _ => 64 - (intOf i).toNat)
      case atStart => exact ⟨0, by omega, rfl, .inl ⟨rfl, rfl⟩, World.grownBy.refl _ _⟩
      case round =>
        obtain ⟨j, hj, rfl, ho, hg3⟩ := hrel
        have hsz3 := hg3.size
        by_cases hlt64 : j < 64
        · have hbj : k + j + 1 ≤ maxLen := by unfold maxLen; omega
          have hbj2 : (k + j + 1) * 16 ≤ 140737488355328 := by omega
          rcases ho with ⟨hj0, ho0⟩ | ⟨hj0, hown3⟩
          · subst hj0 ho0
            have hat3 := hat2.below hg3
            go_wp2_with (at_builtin; refine wpList_grow1 _ rfl _ _ 51 rfl 9 i0 _ 16 Tryz.underlying51 hif hz0 hz1 hz2 rfl a k (List.replicate k (.string M : Value)) rfl Hrl.out ha.out (hat3.below (World.grownBy_alloc _ _ _)) wr.heap.size 1 [(.string M : Value)] rfl (Nat.succ_pos _) (cat_new wr _ _) Hone1.out hb1 (by decide) ?_; intro v4 w4 hown4 hg4)
            have R : w4.ownsRow w2.heap.size 9 1 v4 (k + 1) (List.replicate (k + 1) (.string M : Value)) ∧ w2.grownBy w4 none := ⟨own_base (by rw [← cat_rep]; exact hown4) (by simp; omega), gb_trans (gb_alloc hg3 _) hg4⟩
            clear hown4 hg4 hat3 hg3
            go_wp2
            go_roundw
            case rel => exact ⟨1, by omega, by go_num, .inr ⟨by omega, R.1⟩, R.2⟩
            case measure => simp [intOf]
          · have hcn := cat_new wr #[(.string M : Value)] 9
            go_wp2_with (at_builtin; refine wpList_append_any _ rfl _ _ 51 rfl w2.heap.size 9 i0 _ 1 16 Tryz.underlying51 hif hz0 hz1 hz2 rfl (by decide) _ _ _ rfl (hown3.alloc _) (some ⟨wr.heap.size, 0, none⟩) 1 1 [(.string M : Value)] rfl rfl hcn (by intro h; cases h) Hone1.out hbj hbj2 (by simp; omega) ?_; intro v4 w4 hown4 hg4)
            have R : w4.ownsRow w2.heap.size 9 1 v4 (k + (j + 1)) (List.replicate (k + (j + 1)) (.string M : Value)) ∧ w2.grownBy w4 none := ⟨by rw [← Nat.add_assoc, ← cat_rep (k + j) 1 (.string M : Value)]; exact hown4, gb_row (gb_alloc hg3 _) hg4 (fun i hi => (hown3.lt i hi).1)⟩
            clear hown4 hg4 hg3 hown3 hcn
            go_wp2
            go_roundw
            case rel => exact ⟨j + 1, by omega, by go_num, .inr ⟨by omega, R.1⟩, R.2⟩
            case measure => simp [intOf]; omega
        · have hj64 : j = 64 := by omega
          subst hj64
          have hown3 : wr.ownsRow w2.heap.size 9 1 u8 (k + 64) (List.replicate (k + 64) (.string M : Value)) := by
            rcases ho with ⟨h, _⟩ | ⟨_, h⟩
            · omega
            · exact h
          clear ho hlt64 hj
          have K3 := gb_trans K12 hg3
          have hown1x := hown1'.kept hg3 (by cases h : v1.ownBlock <;> simp)
          have hown2x := hown2.kept hg3 (by cases h : v2.ownBlock <;> simp)
          have hat3 := hat2.below hg3
          clear hown1' hown2 hat2 hg3
          have Fo : Frm w wo (fun b => gB = some b) := Frm.of_gb hgr
          have Fr : Frm w wr (fun b => gB = some b) := Fo.trans (Frm.of_none K3 _)
          have hwbw := hW.lt
          have hgne : ∀ g, gB = some g → g ≠ wb ∧ (Value.slice ab ents.length cb).ownBlock ≠ some g := by
            intro g hg
            rcases hB.out with ⟨_, h2⟩ | ⟨g', h1, _, _, _, h5, h6⟩
            · rw [h2] at hg; cases hg
            · rw [h1] at hg; cases hg; exact ⟨h5, h6⟩
          have hWr : Blk wr wb cs := hW.kept (Fr.block wb hwbw (fun e => (hgne _ e).1 rfl))
          have hrowr : wr.ownsRow base 123 5 (.slice ab ents.length cb) ents.length (evCells ents) := own_keep hrow (fun b hb => Fr.block b (hrow.lt b hb).2 (fun e => (hgne _ e).2 hb))
          have hszR := K3.size
          obtain ⟨⟨p1, n1, c1⟩, hv1, hn1, hm1, hb1'⟩ := own_markedV (n := k + 1) (m := (.string M : Value)) (by rw [← cat_rep]; exact hown1x) (by omega)
          obtain ⟨⟨p2, n2, c2⟩, hv2, hn2, hm2, hb2'⟩ := own_markedV (n := k + 2) (m := (.string M : Value)) (by rw [← cat_rep]; exact hown2x) (by omega)
          obtain ⟨⟨p3, n3, c3⟩, hv3, hn3, hm3, hb3'⟩ := own_markedV (n := k + 64) (m := (.string M : Value)) hown3 (by omega)
          change v1 = .slice p1 n1 c1 at hv1
          change v2 = .slice p2 n2 c2 at hv2
          change u8 = .slice p3 n3 c3 at hv3
          subst hv1 hv2 hv3
          obtain ⟨x, hx⟩ : ∃ x : EntV, x = ⟨(a, k, k), (p1, n1, c1), (p2, n2, c2), (p3, n3, c3), (.string M : Value)⟩ := ⟨_, rfl⟩
          have hxok : x.ok wr := by subst hx; exact ⟨⟨by show k ≤ _; omega, hat3⟩, hm1, hm2, hm3⟩
          have HX : Hid (x.cells = [.slice a k k, .slice p1 n1 c1, .slice p2 n2 c2, .slice p3 n3 c3, (.string M : Value)]) := by subst hx; rfl
          have HMK : Hid (isMS x.mark) := by subst hx; exact ⟨_, rfl⟩
          have HXO : XOn x gB w.heap.size := by
            intro b hb
            rw [hx] at hb
            rcases hb with h | h | h | h
            · obtain ⟨off, e1, e2⟩ := h
              rcases hB.out with ⟨h1, _⟩ | ⟨g, h1, h2, _⟩
              · have e2' : 0 < k := e2; omega
              · have e1' : a = some ⟨b, off, none⟩ := e1
                rw [h2] at e1'
                simp at e1'
                exact .inl (by rw [h1, e1'.1])
            · have := (hb1' b h).2; simp at this; exact .inr (by omega)
            · have := (hb2' b h).2; simp at this; exact .inr (by omega)
            · have := (hb3' b h).2; exact .inr (by omega)
          have hll1 : ents.length + 1 ≤ maxLen := by unfold maxLen; omega
          have hll2 : (ents.length + 1) * 112 ≤ 140737488355328 := by omega
          have hbr : base ≤ wr.heap.size := by omega
          have hcr : wr.cell? ⟨wb, 4, none⟩ = some (.slice ab ents.length cb) := (hWr.cell 4).trans hcs
          have Hgne := hid hgne
          clear hx hm1 hm2 hm3 hb1' hb2' hb3' hown1x hown2x hown3 hat3 hn1 hn2 hn3 hgne
          go_wp2_with (at_builtin; refine wpList_append_blk _ rfl _ _ 69 rfl base 123 ie _ 5 112 Tryz.underlying69 hie he0 he1 he2 rfl (by decide) _ _ _ rfl (hrowr.alloc _) ⟨wr.heap.size, 0, none⟩ 1 1 [.slice a k k, .slice p1 n1 c1, .slice p2 n2 c2, .slice p3 n3 c3, (.string M : Value)] rfl rfl (cells_new wr _ _) (by intro u hu; simp at hu; rcases hu with rfl | rfl | rfl | rfl | rfl <;> rfl) (by omega) hll1 hll2 (by simp; omega) ?_; intro vb' w5 hown5 hg5 hblk; obtain ⟨ab', cb', hvb'⟩ := own_shape hown5; subst hvb'; have h5w := (hWr.alloc (.cells #[.slice a k k, .slice p1 n1 c1, .slice p2 n2 c2, .slice p3 n3 c3, (.string M : Value)] 123)).grown hg5 (fun e => hne e.symm); have hc5 : w5.cell? ⟨wb, 4, none⟩ = some (.slice ab ents.length cb) := ((h5w.cell 4).trans hcs); have hf5 := h5w.frozen 4)
          have R : LMore base wb 4 123 isMS gB (.slice ab ents.length cb) cs ents w (w5.setCell ⟨wb, 4, none⟩ (.slice ab' (ents.length + 1) cb')) := LMore.push hrow.lt hne hwbw Fr hxok HX.out HXO Hgne.out (World.grownBy_alloc wr _ _) hg5 h5w hown5 hblk.out HMK.out
          clear hblk hown5 hg5 h5w
          go_end0
          exact ⟨rfl, R⟩
end Go.Proofs.YtbanfbpfapjfcaaGreatDoor
namespace Go.Proofs.YtbanfbpfapjfcaaGreatDoor
open Go.RowKit
set_option maxRecDepth 100000
variable {PP QP : Type} {D : Desks PP QP} {base wb : Nat}

theorem SepW.str {d : WD PP QP} {w w' : World} {gB : Option Nat} (h : SepW D base wb d w) (hg : ∀ g, gB = some g → base ≤ g ∧ g < w.heap.size ∧ ∀ j, ¬ WD.F D wb d j g) (k : LMore base wb 4 123 isMS gB d.sv d.cells d.es w w') :
    (∃ x v, SepW D base wb { d with sv := v, es := d.es ++ [x] } w' ∧ ∀ j b, WD.F D wb { d with sv := v, es := d.es ++ [x] } j b → WD.F D wb d j b ∨ gB = some b ∨ w.heap.size ≤ b) ∧ Below base w w' := by
  obtain ⟨x, v, hmk, h1, h2, h3, h4, h5, h6⟩ := k
  have z := h4.size
  have hroom := h.room
  have hnew : ∀ b, w.heap.size ≤ b → ∀ j, ¬ WD.F D wb d j b := fun b hb j hj => by have := h.lt j b hj; omega
  have hex : ∀ b, (b = wb ∨ d.sv.ownBlock = some b ∨ gB = some b) → (∃ k, (k = 0 ∨ k = 7 ∨ k = 8) ∧ WD.F D wb d k b) ∨ ∀ j, ¬ WD.F D wb d j b := by
    rintro b (e | e | e)
    · exact .inl ⟨0, .inl rfl, e⟩
    · exact .inl ⟨7, .inr (.inl rfl), e⟩
    · exact .inr (hg b e).2.2
  have hent : ∀ y ∈ d.es, ∀ b, y.on b → WD.F D wb d 8 b := fun y hy b hb => ⟨y, hy, hb⟩
  have hvn : ∀ b, v.ownBlock = some b → WD.F D wb d 7 b ∨ w.heap.size ≤ b := h5
  have hwb : WD.F D wb d 0 wb := rfl
  have hxn : ∀ b, x.on b → base ≤ b ∧ ∀ j, ¬ WD.F D wb d j b := fun b hb => by
    rcases (h6 b hb).2.2 with e | e
    · exact ⟨(hg b e).1, (hg b e).2.2⟩
    · exact ⟨by omega, hnew b e⟩
  refine ⟨⟨x, v, Sep.acts (WD.loc D base wb) h (fun k => k = 0 ∨ k = 7 ∨ k = 8) _ h4 hex ?_ ?_ ?_ ?_, ?_⟩, h4.below hroom ?_⟩
  · rintro k (rfl | rfl | rfl)
    · exact h1
    · show w'.ownsRow base 123 5 v (d.es ++ [x]).length (evCells (d.es ++ [x]))
      rw [List.length_append]
      exact h2
    · intro y hy
      rcases List.mem_append.1 hy with hy | hy
      · have hold := h.here 8 y hy
        refine ⟨hold.1.keep (fun b hb => h4.block b (h.lt _ b (hent y hy b hb)) ?_), hold.2⟩
        rintro (e | e | e)
        · have := h.one 8 0 b (hent y hy b hb) e; omega
        · have := h.one 8 7 b (hent y hy b hb) e; omega
        · exact (hg b e).2.2 _ (hent y hy b hb)
      · rw [List.mem_singleton.1 hy]; exact ⟨h3, hmk⟩
  · rintro k b (rfl | rfl | rfl) hb
    · have e : b = wb := hb
      subst e
      exact ⟨h.base 0 b hwb, h1.lt, .inl ⟨0, .inl rfl, hwb⟩⟩
    · have e : v.ownBlock = some b := hb
      refine ⟨(h2.lt b e).1, (h2.lt b e).2, ?_⟩
      rcases hvn b e with e2 | e2
      · exact .inl ⟨7, .inr (.inl rfl), e2⟩
      · exact .inr (hnew b e2)
    · obtain ⟨y, hy, hb⟩ := hb
      rcases List.mem_append.1 hy with hy | hy
      · have e := hent y hy b hb
        exact ⟨h.base _ b e, by have := h.lt _ b e; omega, .inl ⟨8, .inr (.inr rfl), e⟩⟩
      · rw [List.mem_singleton.1 hy] at hb
        exact ⟨(hxn b hb).1, h3.lt hb, .inr (hxn b hb).2⟩
  · have h03 : v.ownBlock ≠ some wb := fun e => by
      rcases hvn wb e with e2 | e2
      · have := h.one 0 7 wb hwb e2; omega
      · exact hnew wb e2 0 hwb
    have h04 : ¬ Ents.on (d.es ++ [x]) wb := by
      rintro ⟨y, hy, hb⟩
      rcases List.mem_append.1 hy with hy | hy
      · have := h.one 0 8 wb hwb (hent y hy wb hb); omega
      · rw [List.mem_singleton.1 hy] at hb; exact (h6 wb hb).1 rfl
    have h34 : ∀ b, v.ownBlock = some b → ¬ Ents.on (d.es ++ [x]) b := by
      rintro b e ⟨y, hy, hb⟩
      rcases List.mem_append.1 hy with hy | hy
      · rcases hvn b e with e2 | e2
        · have := h.one 7 8 b e2 (hent y hy b hb); omega
        · exact hnew b e2 _ (hent y hy b hb)
      · rw [List.mem_singleton.1 hy] at hb; exact (h6 b hb).2.1 e
    rintro i j b (rfl | rfl | rfl) (rfl | rfl | rfl) hi hj
    · rfl
    · have e : b = wb := hi; subst e; exact absurd hj h03
    · have e : b = wb := hi; subst e; exact absurd hj h04
    · have e : b = wb := hj; subst e; exact absurd hi h03
    · rfl
    · exact absurd hj (h34 b hi)
    · have e : b = wb := hj; subst e; exact absurd hi h04
    · exact absurd hi (h34 b hj)
    · rfl
  · intro j hj
    have n0 : j ≠ 0 := fun e => hj (.inl e)
    have n1 : j ≠ 7 := fun e => hj (.inr (.inl e))
    have n2 : j ≠ 8 := fun e => hj (.inr (.inr e))
    match j, n0, n1, n2 with
    | 1, _, _, _ => exact ⟨fun q => q, fun _ q => q⟩
    | 2, _, _, _ => exact ⟨fun q => q, fun _ q => q⟩
    | 3, _, n1, _ => first | exact absurd rfl n1 | exact ⟨fun q => q, fun _ q => q⟩
    | 4, _, _, n2 => first | exact absurd rfl n2 | exact ⟨fun q => q, fun _ q => q⟩
    | 5, _, n1, _ => first | exact absurd rfl n1 | exact ⟨fun q => q, fun _ q => q⟩
    | 6, _, _, n2 => first | exact absurd rfl n2 | exact ⟨fun q => q, fun _ q => q⟩
    | 7, _, n1, _ => first | exact absurd rfl n1 | exact ⟨fun q => q, fun _ q => q⟩
    | 8, _, _, n2 => first | exact absurd rfl n2 | exact ⟨fun q => q, fun _ q => q⟩
    | 9, _, _, _ => exact ⟨fun q => q, fun _ q => q⟩
    | 10, _, _, _ => exact ⟨fun q => q, fun _ q => q⟩
    | k + 11, _, _, _ => exact ⟨fun q => q, fun _ q => q⟩
  · intro j b hb
    by_cases e1 : j = 7
    · subst e1
      rcases hvn b hb with e | e
      · exact .inl e
      · exact .inr (.inr e)
    · by_cases e2 : j = 8
      · subst e2
        obtain ⟨y, hy, hb⟩ := hb
        rcases List.mem_append.1 hy with hy | hy
        · exact .inl (hent y hy b hb)
        · rw [List.mem_singleton.1 hy] at hb
          exact .inr (h6 b hb).2.2
      · left
        match j, e1, e2 with
        | 0, _, _ => exact hb
        | 1, _, _ => exact hb
        | 2, _, _ => exact hb
        | 3, n1, _ => first | exact absurd rfl n1 | exact hb
        | 4, _, n2 => first | exact absurd rfl n2 | exact hb
        | 5, n1, _ => first | exact absurd rfl n1 | exact hb
        | 6, _, n2 => first | exact absurd rfl n2 | exact hb
        | 7, n1, _ => first | exact absurd rfl n1 | exact hb
        | 8, _, n2 => first | exact absurd rfl n2 | exact hb
        | 9, _, _ => exact hb
        | 10, _, _ => exact hb
        | k + 11, _, _ => exact hb
  · rintro b (e | e | e)
    · rw [e]; exact h.base 0 wb hwb
    · exact h.base 7 b e
    · exact (hg b e).1
end Go.Proofs.YtbanfbpfapjfcaaGreatDoor
namespace Go.Proofs.YtbanfbpfapjfcaaGreatDoor
open Go.RowKit
set_option maxRecDepth 100000
variable {PP QP : Type} {D : Desks PP QP} {base wb : Nat}

theorem str_step (d : WD PP QP) (g n : Nat) (vs : List Value) (w : World) (hS : SepW D base wb d w) (hn : Hid (vs.length = n)) (hnl : n ≤ 100000) (hb : Blk w g vs.toArray) (hbg : base ≤ g) (hfr : ∀ j, ¬ WD.F D wb d j g) (hll : (d.es.length + 1) * 112 ≤ 140737488355328) :
    Calls Tryz.prog 82 #[.pointer (some ⟨wb, 2, none⟩), .slice (some ⟨g, 0, none⟩) n n] w fun e w' => e = .returned (.tuple #[]) ∧ (∃ x v', SepW D base wb { d with sv := v', es := d.es ++ [x] } w' ∧ ∀ j b, WD.F D wb { d with sv := v', es := d.es ++ [x] } j b → WD.F D wb d j b ∨ b = g ∨ w.heap.size ≤ b) ∧ Below base w w' ∧ Frm w w' (fun b => b = wb ∨ d.sv.ownBlock = some b ∨ b = g) := by
  have h0 : Blk w wb d.cells := hS.here 0
  have h3 : w.ownsRow base 123 5 d.sv d.es.length (evCells d.es) := hS.here 7
  have hwb : WD.F D wb d 0 wb := rfl
  have hbv : d.sv.ownBlock ≠ some wb := fun e => by have := hS.one 0 7 wb hwb e; omega
  obtain ⟨gB, hgB, hgn⟩ : ∃ gB : Option Nat, ((n = 0 ∧ gB = none) ∨ ∃ g', gB = some g' ∧ (some ⟨g, 0, none⟩ : Option Addr) = some ⟨g', 0, none⟩ ∧ 0 < n ∧ Blk w g' vs.toArray ∧ g' ≠ wb ∧ d.sv.ownBlock ≠ some g') ∧ ∀ b, gB = some b → b = g := by
    by_cases e : n = 0
    · exact ⟨none, .inl ⟨e, rfl⟩, fun b h => by cases h⟩
    · exact ⟨some g, .inr ⟨g, rfl, rfl, by omega, hb, fun e => hfr 0 e, fun e => hfr 7 e⟩, fun b h => by injection h with h; exact h.symm⟩
  refine (lstr_V base wb n (some ⟨g, 0, none⟩) vs d.es d.sv d.cells gB w h0 rfl h3 hbv hS.room hn hnl (hid (fun e => by cases e)) (hid hgB) hll).mono ?_
  rintro e w' ⟨rfl, hM⟩
  have hM' := hM
  obtain ⟨x, v', _, _, _, _, h4, _⟩ := hM'
  have R := hS.str (fun b hb' => by rw [hgn b hb']; exact ⟨hbg, hb.lt, hfr⟩) hM
  obtain ⟨⟨x1, v1, s1, s2⟩, s3⟩ := R
  refine ⟨rfl, ⟨x1, v1, s1, fun j b hj => ?_⟩, s3, h4.mono (fun b _ e => ?_)⟩
  · rcases s2 j b hj with e | e | e
    · exact .inl e
    · exact .inr (.inl (hgn b e))
    · exact .inr (.inr e)
  · rcases e with e | e | e
    · exact .inl e
    · exact .inr (.inl e)
    · exact .inr (.inr (hgn b e))
theorem str_free (d : WD PP QP) (g n m : Nat) (U : Nat → Prop) (vs : List Value) (w wk : World) (hS : SepW D base wb d wk) (hF : FreeB D wb U d w wk) (hw : w.heap.size ≤ wk.heap.size) (hb0 : base ≤ g) (hn : Hid (vs.length = n)) (hnl : n ≤ 100000) (hb : Blk w g vs.toArray) (hu : ¬ U g) (hpv : d.pv.ownBlock ≠ some g) (hll : (d.es.length + 1) * 112 ≤ 140737488355328) :
    Calls Tryz.prog 82 #[.pointer (some ⟨wb, 2, none⟩), .slice (some ⟨g, 0, none⟩) n n] (wk.drewN m) fun e w' => e = .returned (.tuple #[]) ∧ ∃ x v', SepW D base wb { d with sv := v', es := d.es ++ [x] } w' ∧ FreeB D wb (fun b => U b ∨ b = g) { d with sv := v', es := d.es ++ [x] } w w' ∧ Below base wk w' ∧ w.heap.size ≤ w'.heap.size := by
  have hbk : Blk (wk.drewN m) g vs.toArray := (hF.blk hb hu).drewN m
  have hno : ∀ j, ¬ WD.F D wb d j g := fun j hj => by
    have e := (hF g hb.lt hu).1 j hj
    subst e
    exact hpv hj
  refine (str_step d g n vs (wk.drewN m) (hS.grown (gb_drewN (World.grownBy.refl wk none) m)) hn hnl hbk hb0 hno hll).mono ?_
  rintro e w' ⟨rfl, ⟨x, v', s1, s2⟩, s3, s4⟩
  have z : wk.heap.size ≤ w'.heap.size := s4.size
  refine ⟨rfl, x, v', s1, fun b h2 h3 => ?_, ⟨s3.os, s3.tape, s3.output, s3.size, s3.block⟩, by omega⟩
  have hu' : ¬ U b := fun e => h3 (.inl e)
  have hne : b ≠ g := fun e => h3 (.inr e)
  obtain ⟨q1, q2⟩ := hF b h2 hu'
  refine ⟨fun j hj => ?_, ?_⟩
  · rcases s2 j b hj with e | e | e
    · exact q1 j e
    · exact absurd e hne
    · have e : wk.heap.size ≤ b := e; omega
  · rw [← q2]
    refine s4.block b (by show b < wk.heap.size; omega) ?_
    rintro (e | e | e)
    · have := q1 0 e; omega
    · have := q1 7 e; omega
    · exact hne e
end Go.Proofs.YtbanfbpfapjfcaaGreatDoor
