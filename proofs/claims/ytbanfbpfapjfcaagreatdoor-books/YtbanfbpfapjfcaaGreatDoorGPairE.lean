/-
  Contract of World.plain at a step that tells the state. Conditions: in each statement.
-/
import Derived.Test.YtbanfbpfapjfcaaGreatDoorGPairA
import Derived.Test.YtbanfbpfapjfcaaGreatDoorGLaw6
import Derived.Test.YtbanfbpfapjfcaaGreatDoorGLawLStr
import Derived.Test.YtbanfbpfapjfcaaGreatDoorGLaw5
namespace Go.Proofs.YtbanfbpfapjfcaaGreatDoor
open Go.RowKit
set_option maxRecDepth 100000
variable {QP : Type} {qas : QP → Asrt} {qb : QP → Nat} {base wb : Nat}

theorem more_len {α : Type} (l : List α) (h : (l.length + 2) * 112 ≤ 140737488355328) (e : α) : ((l ++ [e]).length + 1) * 112 ≤ 140737488355328 := by
  simp only [List.length_append, List.length_singleton]
  omega
theorem map_names (es : List RE) (bs : List BE) (h : es.map RE.be = bs) : es.map nameV = bs.map (fun x => Value.string ⟨x.name.toArray⟩) ∧ es.map numV = bs.map (fun x => Value.int .i64 x.number) := by
  subst h
  exact ⟨by rw [List.map_map]; rfl, by rw [List.map_map]; rfl⟩
theorem rState_RD (w : World) (yb : Nat) (M : DM) (g : RG) (h : RD w 0 yb M g) (hok : M.book.length ≤ 20) :
    Calls Tryz.prog 80 #[.pointer (some ⟨yb, 0, none⟩)] w fun e w' => ∃ an cn au cu, e = .returned (.agg #[.slice an M.book.length cn, .slice au M.book.length cu, .int .i64 (M.proofs.length : Int), .int .i64 (M.draws.length : Int)]) ∧ CAt w' an (M.book.map fun x => Value.string ⟨x.name.toArray⟩) ∧ CAt w' au (M.book.map fun x => Value.int .i64 x.number) ∧ w.grownBy w' none := by
  obtain ⟨bv, pv, dv, es⟩ := g
  have hd := h.desk
  have hp := h.proofs
  simp only at hd hp
  obtain ⟨pa, pc, hpv⟩ := own_shape hp
  subst hpv
  have hb : es.map RE.be = M.book := h.book
  have hlen : es.length = M.book.length := by rw [← hb, List.length_map]
  obtain ⟨e1, e2⟩ := map_names es M.book hb
  refine (rState_any 0 yb M.skew bv dv pa M.proofs.length pc es M.draws M.book.length M.draws.length w hd (hid hlen) (by omega) (hid rfl)).mono ?_
  rintro e w' ⟨nv, uv, rfl, o1, o2, gr⟩
  obtain ⟨an, cn, rfl⟩ := own_shape o1
  obtain ⟨au, cu, rfl⟩ := own_shape o2
  rw [e1] at o1
  rw [e2] at o2
  exact ⟨an, cn, au, cu, rfl, own_cat o1, own_cat o2, gr⟩
set_option maxHeartbeats 1000000 in
theorem plain_state (d : WD PD QP) (k : Nat) (p : PD) (kind B C : Int) (K DD : UInt64) (zs : List UInt8) (c1 c6 c8 c9 c10 c11 c12 c13 c14 c15 c16 c17 c18 c19 c20 c21 c22 c23 c24 c25 c26 c27 c28 c29 c30 c31 c32 c33 c34 c35 c36 c37 c38 c39 c40 : Value) (w : World) (hk : d.ps[k]? = some p) (hk6 : (kind == 6) = false) (hk7 : (kind == 7) = false)
    (hI : SepW (plainD qas qb) base wb d w) (hl1 : (d.es.length + 2) * 112 ≤ 140737488355328) (hl2 : (d.ei.length + 2) * 112 ≤ 140737488355328) :
    Calls Tryz.prog 47 #[.pointer (some ⟨wb, 0, none⟩), .agg #[.int .i64 kind, c1, .int .i64 B, .int .i64 C, .int .u64 (K.toNat : Int), .int .u64 (DD.toNat : Int), c6, .string ⟨zs.toArray⟩, c8, c9, c10, c11, c12, c13, c14, c15, c16, c17, c18, c19, c20, c21, c22, c23, c24, c25, c26, c27, c28, c29, c30, c31, c32, c33, c34, c35, c36, c37, c38, c39, c40], .pointer (some ⟨p.pb, 0, none⟩)] w fun e w' => e = .returned (.bool true) ∧ More (plainD qas qb) base wb 2 d w w' ∧ KeptP (plainD qas qb) wb d w w' := by
  have hp := hI.part hk
  have G0 := World.grownBy_alloc w (.cells #[.int .i64 kind, c1, .int .i64 B, .int .i64 C, .int .u64 (K.toNat : Int), .int .u64 (DD.toNat : Int), c6, .string ⟨zs.toArray⟩, c8, c9, c10, c11, c12, c13, c14, c15, c16, c17, c18, c19, c20, c21, c22, c23, c24, c25, c26, c27, c28, c29, c30, c31, c32, c33, c34, c35, c36, c37, c38, c39, c40] 82) none
  have hp0 : p.ok (w.alloc (.cells #[.int .i64 kind, c1, .int .i64 B, .int .i64 C, .int .u64 (K.toNat : Int), .int .u64 (DD.toNat : Int), c6, .string ⟨zs.toArray⟩, c8, c9, c10, c11, c12, c13, c14, c15, c16, c17, c18, c19, c20, c21, c22, c23, c24, c25, c26, c27, c28, c29, c30, c31, c32, c33, c34, c35, c36, c37, c38, c39, c40] 82)) := hp.keep (fun b hb => G0.block b (hp.lt hb) (by simp))
  have k0 : (w.alloc (.cells #[.int .i64 kind, c1, .int .i64 B, .int .i64 C, .int .u64 (K.toNat : Int), .int .u64 (DD.toNat : Int), c6, .string ⟨zs.toArray⟩, c8, c9, c10, c11, c12, c13, c14, c15, c16, c17, c18, c19, c20, c21, c22, c23, c24, c25, c26, c27, c28, c29, c30, c31, c32, c33, c34, c35, c36, c37, c38, c39, c40] 82)).cell? ⟨w.heap.size, 0, none⟩ = some (.int .i64 kind) := by rw [World.cell?_alloc_at (hn := rfl)]; rfl
  have HP : Hid (∀ W, (w.alloc (.cells #[.int .i64 kind, c1, .int .i64 B, .int .i64 C, .int .u64 (K.toNat : Int), .int .u64 (DD.toNat : Int), c6, .string ⟨zs.toArray⟩, c8, c9, c10, c11, c12, c13, c14, c15, c16, c17, c18, c19, c20, c21, c22, c23, c24, c25, c26, c27, c28, c29, c30, c31, c32, c33, c34, c35, c36, c37, c38, c39, c40] 82)).grownBy W none → p.ok W) := fun W g => hp0.keep (fun b hb => g.block b (hp0.lt hb) (by simp))
  have q0 : (w.alloc (.cells #[.int .i64 kind, c1, .int .i64 B, .int .i64 C, .int .u64 (K.toNat : Int), .int .u64 (DD.toNat : Int), c6, .string ⟨zs.toArray⟩, c8, c9, c10, c11, c12, c13, c14, c15, c16, c17, c18, c19, c20, c21, c22, c23, c24, c25, c26, c27, c28, c29, c30, c31, c32, c33, c34, c35, c36, c37, c38, c39, c40] 82)).cell? ⟨p.pb, 0, none⟩ = some (.pointer (some ⟨p.xb, 0, none⟩)) := hp0.blk.cell 0
  have hlen : p.M.book.length ≤ 20 := hp.x.book.len
  have HE1 : Hid (∀ e : EntV, ((d.es ++ [e]).length + 1) * 112 ≤ 140737488355328) := fun e => more_len d.es hl1 e
  have HE2 : Hid (∀ e : EntV, ((d.ei ++ [e]).length + 1) * 112 ≤ 140737488355328) := fun e => more_len d.ei hl2 e
  have HE0 : Hid ((d.es.length + 1) * 112 ≤ 140737488355328 ∧ (d.ei.length + 1) * 112 ≤ 140737488355328 ∧ p.M.book.length ≤ 100000) := ⟨by omega, by omega, by omega⟩
  clear hl1 hl2
  have HI := hid hI
  have HG := hid G0
  have s0 : (w.alloc (.cells #[.int .i64 kind, c1, .int .i64 B, .int .i64 C, .int .u64 (K.toNat : Int), .int .u64 (DD.toNat : Int), c6, .string ⟨zs.toArray⟩, c8, c9, c10, c11, c12, c13, c14, c15, c16, c17, c18, c19, c20, c21, c22, c23, c24, c25, c26, c27, c28, c29, c30, c31, c32, c33, c34, c35, c36, c37, c38, c39, c40] 82)).heap.size = w.heap.size + 1 := World.size_alloc _ _
  clear hp hp0 G0 hI hk
  go_enter Tryz.func47, Tryz.ntmps47
  go_wp2_with fail
  refine (plainState_any p.xb p.dp p.M _ (HP.out _ (World.grownBy.refl _ _)).x).mono ?_
  rintro e w1 ⟨bn1, bu1, rfl, oN1, oU1, g1⟩
  have ga := World.grownBy_alloc w1 (.cells #[.slice (some ⟨bn1, 0, none⟩) p.M.book.length p.M.book.length, .slice (some ⟨bu1, 0, none⟩) p.M.book.length p.M.book.length, .int .i64 (p.M.proofs.length : Int), .int .i64 (p.M.draws.length : Int)] 53) none
  have Ga := gb_trans g1 ga
  have q1 : (w1.alloc (.cells #[.slice (some ⟨bn1, 0, none⟩) p.M.book.length p.M.book.length, .slice (some ⟨bu1, 0, none⟩) p.M.book.length p.M.book.length, .int .i64 (p.M.proofs.length : Int), .int .i64 (p.M.draws.length : Int)] 53)).cell? ⟨p.pb, 0, none⟩ = some (.pointer (some ⟨p.xb, 0, none⟩)) := (HP.out _ Ga).blk.cell 0
  have s1 := g1.size
  have sa : (w1.alloc (.cells #[.slice (some ⟨bn1, 0, none⟩) p.M.book.length p.M.book.length, .slice (some ⟨bu1, 0, none⟩) p.M.book.length p.M.book.length, .int .i64 (p.M.proofs.length : Int), .int .i64 (p.M.draws.length : Int)] 53)).heap.size = w1.heap.size + 1 := World.size_alloc _ _
  have n1 := own_ne oN1 oU1 (by decide)
  obtain ⟨B1, f1⟩ := own_blk oN1
  obtain ⟨B2, f2⟩ := own_blk oU1
  have l1 := B1.lt
  have l2 := B2.lt
  have BA := Blk.new w1 #[.slice (some ⟨bn1, 0, none⟩) p.M.book.length p.M.book.length, .slice (some ⟨bu1, 0, none⟩) p.M.book.length p.M.book.length, .int .i64 (p.M.proofs.length : Int), .int .i64 (p.M.draws.length : Int)] 53
  have HA := hid (And.intro B1 (And.intro B2 BA))
  clear q0 k0 oN1 oU1 g1 B1 B2 BA
  go_wp2_with fail
  refine (plainState_any p.xb p.dp p.M _ (HP.out _ Ga).x).mono ?_
  rintro e w2 ⟨bn2, bu2, rfl, oN2, oU2, g2⟩
  have gc := World.grownBy_alloc w2 (.cells #[.slice (some ⟨bn2, 0, none⟩) p.M.book.length p.M.book.length, .slice (some ⟨bu2, 0, none⟩) p.M.book.length p.M.book.length, .int .i64 (p.M.proofs.length : Int), .int .i64 (p.M.draws.length : Int)] 53) none
  have Gc := gb_trans Ga (gb_trans g2 gc)
  have q2 : (w2.alloc (.cells #[.slice (some ⟨bn2, 0, none⟩) p.M.book.length p.M.book.length, .slice (some ⟨bu2, 0, none⟩) p.M.book.length p.M.book.length, .int .i64 (p.M.proofs.length : Int), .int .i64 (p.M.draws.length : Int)] 53)).cell? ⟨p.pb, 1, none⟩ = some (.pointer (some ⟨p.yb, 0, none⟩)) := (HP.out _ Gc).blk.cell 1
  have s2 := g2.size
  have n2 := own_ne oN2 oU2 (by decide)
  obtain ⟨B3, f3⟩ := own_blk oN2
  obtain ⟨B4, f4⟩ := own_blk oU2
  have l3 := B3.lt
  have l4 := B4.lt
  have BC := Blk.new w2 #[.slice (some ⟨bn2, 0, none⟩) p.M.book.length p.M.book.length, .slice (some ⟨bu2, 0, none⟩) p.M.book.length p.M.book.length, .int .i64 (p.M.proofs.length : Int), .int .i64 (p.M.draws.length : Int)] 53
  have HC := hid (And.intro B3 (And.intro B4 BC))
  have H2 := hid (gb_trans ga (gb_trans g2 gc))
  have HG2 := hid (And.intro g2 gc)
  clear q1 oN2 oU2 B3 B4 BC ga g2 gc
  go_wp2_with fail
  refine (rState_RD _ p.yb p.M p.rg (HP.out _ Gc).y hlen).mono ?_
  rintro e w3 ⟨an, cn, au, cu, rfl, hc3, hc4, g3⟩
  have gd := World.grownBy_alloc w3 (.cells #[.slice an p.M.book.length cn, .slice au p.M.book.length cu, .int .i64 (p.M.proofs.length : Int), .int .i64 (p.M.draws.length : Int)] 53) none
  have HG3 := hid (gb_trans g3 gd)
  have HC3 := hid (And.intro (hc3.below gd) (hc4.below gd))
  have BA3 : Blk (w3.alloc (.cells #[.slice an p.M.book.length cn, .slice au p.M.book.length cu, .int .i64 (p.M.proofs.length : Int), .int .i64 (p.M.draws.length : Int)] 53)) w1.heap.size #[.slice (some ⟨bn1, 0, none⟩) p.M.book.length p.M.book.length, .slice (some ⟨bu1, 0, none⟩) p.M.book.length p.M.book.length, .int .i64 (p.M.proofs.length : Int), .int .i64 (p.M.draws.length : Int)] := ((HA.out.2.2.grown HG2.out.1 (by simp)).grown HG2.out.2 (by simp)).grown HG3.out (by simp)
  have BD3 := Blk.new w3 #[.slice an p.M.book.length cn, .slice au p.M.book.length cu, .int .i64 (p.M.proofs.length : Int), .int .i64 (p.M.draws.length : Int)] 53
  obtain ⟨x0, x1, x2, x3⟩ := BA3.four
  obtain ⟨y0, y1, y2, y3⟩ := BD3.four
  have G3 := gb_trans Gc HG3.out
  have HBD := hid BD3
  have HBA := hid BA3
  have e1 : (p.M.book.map (fun x => x.name)).map (fun l => Value.string ⟨l.toArray⟩) = p.M.book.map fun x => Value.string ⟨x.name.toArray⟩ := by rw [List.map_map]; rfl
  have e2 : (p.M.book.map (fun x => x.number)).map (fun x => Value.int .i64 x) = p.M.book.map fun x => Value.int .i64 x.number := by rw [List.map_map]; rfl
  have HS : Hid (∀ (W : World) (a1 a2 : Option Addr) (c1 c2 : Nat), (w3.alloc (.cells #[.slice an p.M.book.length cn, .slice au p.M.book.length cu, .int .i64 (p.M.proofs.length : Int), .int .i64 (p.M.draws.length : Int)] 53)).grownBy W none → CAt W a1 (p.M.book.map fun x => Value.string ⟨x.name.toArray⟩) → CAt W a2 (p.M.book.map fun x => Value.int .i64 x.number) → Calls Tryz.prog 81 #[.agg #[.slice a1 p.M.book.length c1, .slice a2 p.M.book.length c2, .int .i64 (p.M.proofs.length : Int), .int .i64 (p.M.draws.length : Int)], .agg #[.slice an p.M.book.length cn, .slice au p.M.book.length cu, .int .i64 (p.M.proofs.length : Int), .int .i64 (p.M.draws.length : Int)]] W fun e w' => e = .returned (.bool true) ∧ W.grownBy w' none) := by
    intro W a1 a2 c1 c2 gW h1 h2
    exact sameState_any (p.M.book.map (fun x => x.name)) (p.M.book.map (fun x => x.number)) p.M.book.length a1 a2 an au c1 c2 cn cu _ _ W (by show _ = _; rw [List.length_map]) (by show _ = _; rw [List.length_map]) (by omega) (by rw [e1]; exact h1) (by rw [e1]; exact HC3.out.1.below gW) (by rw [e2]; exact h2) (by rw [e2]; exact HC3.out.2.below gW)
  have HN1 : Hid (CAt (w3.alloc (.cells #[.slice an p.M.book.length cn, .slice au p.M.book.length cu, .int .i64 (p.M.proofs.length : Int), .int .i64 (p.M.draws.length : Int)] 53)) (some ⟨bn1, 0, none⟩) (p.M.book.map fun x => Value.string ⟨x.name.toArray⟩) ∧ CAt (w3.alloc (.cells #[.slice an p.M.book.length cn, .slice au p.M.book.length cu, .int .i64 (p.M.proofs.length : Int), .int .i64 (p.M.draws.length : Int)] 53)) (some ⟨bu1, 0, none⟩) (p.M.book.map fun x => Value.int .i64 x.number)) := ⟨(HA.out.1.cat.below H2.out).below HG3.out, (HA.out.2.1.cat.below H2.out).below HG3.out⟩
  have HN2 : Hid (CAt (w3.alloc (.cells #[.slice an p.M.book.length cn, .slice au p.M.book.length cu, .int .i64 (p.M.proofs.length : Int), .int .i64 (p.M.draws.length : Int)] 53)) (some ⟨bn2, 0, none⟩) (p.M.book.map fun x => Value.string ⟨x.name.toArray⟩) ∧ CAt (w3.alloc (.cells #[.slice an p.M.book.length cn, .slice au p.M.book.length cu, .int .i64 (p.M.proofs.length : Int), .int .i64 (p.M.draws.length : Int)] 53)) (some ⟨bu2, 0, none⟩) (p.M.book.map fun x => Value.int .i64 x.number)) := ⟨(HC.out.1.cat.below HG2.out.2).below HG3.out, (HC.out.2.1.cat.below HG2.out.2).below HG3.out⟩
  clear q2 hc3 hc4 g3 gd e1 e2 BA3 BD3
  go_wp2_with fail
  refine (HS.out _ _ _ _ _ (World.grownBy.refl _ _) HN1.out.1 HN1.out.2).mono ?_
  rintro e w4 ⟨rfl, g4⟩
  have BC4 : Blk w4 w2.heap.size #[.slice (some ⟨bn2, 0, none⟩) p.M.book.length p.M.book.length, .slice (some ⟨bu2, 0, none⟩) p.M.book.length p.M.book.length, .int .i64 (p.M.proofs.length : Int), .int .i64 (p.M.draws.length : Int)] := (HC.out.2.2.grown HG3.out (by simp)).grown g4 (by simp)
  have BD4 := HBD.out.grown g4 (by simp)
  clear x0 x1 x2 x3 y0 y1 y2 y3
  obtain ⟨x0, x1, x2, x3⟩ := BC4.four
  obtain ⟨y0, y1, y2, y3⟩ := BD4.four
  go_wp2_with fail
  refine (HS.out _ _ _ _ _ g4 (HN2.out.1.below g4) (HN2.out.2.below g4)).mono ?_
  rintro e w5 ⟨rfl, g5⟩
  clear x0 x1 x2 x3 y0 y1 y2 y3
  have G45 := gb_trans HG3.out (gb_trans g4 g5)
  have G5 := gb_trans HG.out (gb_trans Gc G45)
  have HI5 := hid (HI.out.grown G5)
  have hroom := HI.out.room
  have B1 : Hid (Blk w5 bn1 (p.M.book.map fun x => Value.string ⟨x.name.toArray⟩).toArray) := (HA.out.1.grown H2.out (by simp)).grown G45 (by simp)
  have B2 : Hid (Blk w5 bu1 (p.M.book.map fun x => Value.int .i64 x.number).toArray) := (HA.out.2.1.grown H2.out (by simp)).grown G45 (by simp)
  have B3 : Hid (Blk w5 bn2 (p.M.book.map fun x => Value.string ⟨x.name.toArray⟩).toArray) := (HC.out.1.grown HG2.out.2 (by simp)).grown G45 (by simp)
  have B4 : Hid (Blk w5 bu2 (p.M.book.map fun x => Value.int .i64 x.number).toArray) := (HC.out.2.1.grown HG2.out.2 (by simp)).grown G45 (by simp)
  have BA : Hid (Blk w5 w1.heap.size #[.slice (some ⟨bn1, 0, none⟩) p.M.book.length p.M.book.length, .slice (some ⟨bu1, 0, none⟩) p.M.book.length p.M.book.length, .int .i64 (p.M.proofs.length : Int), .int .i64 (p.M.draws.length : Int)]) := (HBA.out.grown g4 (by simp)).grown g5 (by simp)
  have BC : Hid (Blk w5 w2.heap.size #[.slice (some ⟨bn2, 0, none⟩) p.M.book.length p.M.book.length, .slice (some ⟨bu2, 0, none⟩) p.M.book.length p.M.book.length, .int .i64 (p.M.proofs.length : Int), .int .i64 (p.M.draws.length : Int)]) := BC4.grown g5 (by simp)
  have HL5 := hid (below_gb G5 hroom)
  have z5 := Nat.le_refl w5.heap.size
  have F5 := hid (FreeB.start (D := plainD qas qb) (wb := wb) (d := d) (w := w5))
  have HU : Hid (∀ b, w.heap.size ≤ b → ¬ HeldB (plainD qas qb) wb d b) := fun b hb e => by have := HeldB.lt HI.out e; omega
  have HV : Hid (∀ b, w.heap.size ≤ b → d.pv.ownBlock ≠ some b) := fun b hb e => by have := HI.out.lt 1 b e; omega
  have HBs : Hid (∀ b, w.heap.size ≤ b → base ≤ b) := fun b hb => by omega
  have HG5 := hid G5
  rw [s0] at f1 f2
  rw [sa] at f3 f4
  have HD : Hid ((w.heap.size ≤ bn1 ∧ w.heap.size ≤ bu1 ∧ w.heap.size ≤ bn2 ∧ w.heap.size ≤ bu2 ∧ w.heap.size ≤ w1.heap.size ∧ w.heap.size ≤ w2.heap.size) ∧ bu1 ≠ bn1 ∧ bn2 ≠ bn1 ∧ bn2 ≠ bu1 ∧ bu2 ≠ bn1 ∧ bu2 ≠ bu1 ∧ bu2 ≠ bn2 ∧ (w1.heap.size ≠ bn1 ∧ w1.heap.size ≠ bu1) ∧ w2.heap.size ≠ bn1 ∧ w2.heap.size ≠ bu1 ∧ w2.heap.size ≠ bn2 ∧ w2.heap.size ≠ bu2) := by
    show _ ∧ _
    omega
  have HLn : Hid ((p.M.book.map fun x => Value.string ⟨x.name.toArray⟩).length = p.M.book.length) := List.length_map _
  have HLu : Hid ((p.M.book.map fun x => Value.int .i64 x.number).length = p.M.book.length) := List.length_map _
  have x0 := BA.out.cell 0
  simp only [List.getElem?_toArray, List.getElem?_cons_zero] at x0
  have C6 := hid (str_free d bn1 p.M.book.length 1 _ _ w5 w5 HI5.out F5.out z5 (HBs.out _ HD.out.1.1) HLn.out HE0.out.2.2 B1.out (HU.out _ HD.out.1.1) (HV.out _ HD.out.1.1) HE0.out.1)
  clear BC4 BD4 G45 G5 G3 Gc Ga g4 g5 HS HN1 HN2 HC3 HBD HBA H2 HG2 HG3 HA HC HP n1 n2 f1 f2 f3 f4 l1 l2 l3 l4 s0 s1 s2 sa
  go_wp2_with fail
  go_region_held3 (fun w' => w'.cell? ⟨w1.heap.size, 0, none⟩ = some (.slice (some ⟨bn1, 0, none⟩) p.M.book.length p.M.book.length)) (go_keep) (first | (go_at_call 82; refine C6.out.mono ?_; rintro e w6 ⟨rfl, e6, v6, S6, F6, L6, z6⟩; have yy := (F6.blk BA.out (fun e => e.elim (HU.out _ HD.out.1.2.2.2.2.1) HD.out.2.2.2.2.2.2.2.1.1)).cell 0; simp only [List.getElem?_toArray, List.getElem?_cons_zero] at yy))
  have hba6 := F6.blk BA.out (fun e => e.elim (HU.out _ HD.out.1.2.2.2.2.1) HD.out.2.2.2.2.2.2.2.1.1)
  have x1 := hba6.cell 1
  simp only [List.getElem?_toArray, List.getElem?_cons_zero, List.getElem?_cons_succ] at x1
  have C7 := hid (int_free _ bu1 p.M.book.length 1 _ _ w5 w6 S6 F6 z6 (HBs.out _ HD.out.1.2.1) HLu.out HE0.out.2.2 B2.out (fun e => e.elim (HU.out _ HD.out.1.2.1) HD.out.2.1) (HV.out _ HD.out.1.2.1) HE0.out.2.1)
  have HL6 := hid (HL5.out.trans L6)
  clear yy x0 C6 S6 F6 L6 hba6
  go_wp2_with fail
  go_region_held3 (fun w' => w'.cell? ⟨w1.heap.size, 1, none⟩ = some (.slice (some ⟨bu1, 0, none⟩) p.M.book.length p.M.book.length)) (go_keep) (first | (go_at_call 83; refine C7.out.mono ?_; rintro e w7 ⟨rfl, e7, v7, S7, F7, L7, z7⟩; have yy := (F7.blk BA.out (fun e => e.elim (fun e => e.elim (HU.out _ HD.out.1.2.2.2.2.1) HD.out.2.2.2.2.2.2.2.1.1) HD.out.2.2.2.2.2.2.2.1.2)).cell 1; simp only [List.getElem?_toArray, List.getElem?_cons_zero, List.getElem?_cons_succ] at yy))
  have hbc7 := F7.blk BC.out (fun e => e.elim (fun e => e.elim (HU.out _ HD.out.1.2.2.2.2.2) HD.out.2.2.2.2.2.2.2.2.1) HD.out.2.2.2.2.2.2.2.2.2.1)
  have x2 := hbc7.cell 0
  simp only [List.getElem?_toArray, List.getElem?_cons_zero] at x2
  have C8 := hid (str_free _ bn2 p.M.book.length 1 _ _ w5 w7 S7 F7 z7 (HBs.out _ HD.out.1.2.2.1) HLn.out HE0.out.2.2 B3.out (fun e => e.elim (fun e => e.elim (HU.out _ HD.out.1.2.2.1) HD.out.2.2.1) HD.out.2.2.2.1) (HV.out _ HD.out.1.2.2.1) (HE1.out e6))
  have HL7 := hid (HL6.out.trans L7)
  clear yy x1 C7 S7 F7 L7 hbc7
  go_wp2_with fail
  go_region_held3 (fun w' => w'.cell? ⟨w2.heap.size, 0, none⟩ = some (.slice (some ⟨bn2, 0, none⟩) p.M.book.length p.M.book.length)) (go_keep) (first | (go_at_call 82; refine C8.out.mono ?_; rintro e w8 ⟨rfl, e8, v8, S8, F8, L8, z8⟩; have yy := (F8.blk BC.out (fun e => e.elim (fun e => e.elim (fun e => e.elim (HU.out _ HD.out.1.2.2.2.2.2) HD.out.2.2.2.2.2.2.2.2.1) HD.out.2.2.2.2.2.2.2.2.2.1) HD.out.2.2.2.2.2.2.2.2.2.2.1)).cell 0; simp only [List.getElem?_toArray, List.getElem?_cons_zero] at yy))
  have hbc8 := F8.blk BC.out (fun e => e.elim (fun e => e.elim (fun e => e.elim (HU.out _ HD.out.1.2.2.2.2.2) HD.out.2.2.2.2.2.2.2.2.1) HD.out.2.2.2.2.2.2.2.2.2.1) HD.out.2.2.2.2.2.2.2.2.2.2.1)
  have x3 := hbc8.cell 1
  simp only [List.getElem?_toArray, List.getElem?_cons_zero, List.getElem?_cons_succ] at x3
  have C9 := hid (int_free _ bu2 p.M.book.length 1 _ _ w5 w8 S8 F8 z8 (HBs.out _ HD.out.1.2.2.2.1) HLu.out HE0.out.2.2 B4.out (fun e => e.elim (fun e => e.elim (fun e => e.elim (HU.out _ HD.out.1.2.2.2.1) HD.out.2.2.2.2.1) HD.out.2.2.2.2.2.1) HD.out.2.2.2.2.2.2.1) (HV.out _ HD.out.1.2.2.2.1) (HE2.out e7))
  have HL8 := hid (HL7.out.trans L8)
  clear yy x2 C8 S8 F8 L8 hbc8
  go_wp2_with fail
  go_region_held3 (fun w' => w'.cell? ⟨w2.heap.size, 1, none⟩ = some (.slice (some ⟨bu2, 0, none⟩) p.M.book.length p.M.book.length)) (go_keep) (first | (go_at_call 83; refine C9.out.mono ?_; rintro e w9 ⟨rfl, e9, v9, S9, F9, L9, z9⟩; have yy := (F9.blk BC.out (fun e => e.elim (fun e => e.elim (fun e => e.elim (fun e => e.elim (HU.out _ HD.out.1.2.2.2.2.2) HD.out.2.2.2.2.2.2.2.2.1) HD.out.2.2.2.2.2.2.2.2.2.1) HD.out.2.2.2.2.2.2.2.2.2.2.1) HD.out.2.2.2.2.2.2.2.2.2.2.2)).cell 1; simp only [List.getElem?_toArray, List.getElem?_cons_zero, List.getElem?_cons_succ] at yy))
  have HK : Hid (KeptP (plainD qas qb) wb d w w9) := by
    have hb9 : Blk w9 wb (WD.cells _) := S9.here 0
    refine ⟨hb9.cell 0, fun b hb hx => ?_⟩
    have hd := HD.out.1
    rw [(F9 b (by have := HG5.out.size; omega) (by
      rintro ((((e | e) | e) | e) | e)
      · exact hx e
      · have := hd.1; omega
      · have := hd.2.1; omega
      · have := hd.2.2.1; omega
      · have := hd.2.2.2.1; omega)).2, HG5.out.block b hb (by simp)]
  clear yy x3 C9 F9
  go_wp2
  go_ret
  exact ⟨rfl, ⟨⟨_, S9, rfl, rfl, by simp, by simp, by simp, rfl, rfl⟩, HL8.out.trans L9⟩, HK.out⟩
end Go.Proofs.YtbanfbpfapjfcaaGreatDoor
