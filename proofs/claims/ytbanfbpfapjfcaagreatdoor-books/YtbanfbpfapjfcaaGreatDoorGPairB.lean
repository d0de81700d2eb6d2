/-
  Contract of World.free at a step that makes a plain desk. Conditions: in each statement.
  Contract of World.free at a step that makes a plain desk, where it is made. Conditions: in each statement.
  Contract of World.step at a step that speaks to a plain desk. Conditions: in each statement.
-/
import Derived.Test.YtbanfbpfapjfcaaGreatDoorGPairA
import Derived.Test.YtbanfbpfapjfcaaGreatDoorGPPlainA
import Derived.Test.YtbanfbpfapjfcaaGreatDoorGLaw6
import Derived.Test.YtbanfbpfapjfcaaGreatDoorGPairE
namespace Go.Proofs.YtbanfbpfapjfcaaGreatDoor
open Go.RowKit
set_option maxRecDepth 100000
variable {QP : Type} {qas : QP → Asrt} {qb : QP → Nat} {base wb : Nat}

theorem Lent.lt {w0 w : World} {a : Option Addr} {cap : Nat} {zs : List UInt8} {gB : Option Nat} (h : Lent w0 w a cap zs gB) (k : Nat) (hk : some k = gB) : k < w.heap.size := by
  rcases h with ⟨_, _, _, h⟩ | ⟨g, _, h2, _, h4⟩
  · rw [h] at hk; cases hk
  · rw [h2] at hk; cases hk; exact h4.lt
/-- A pair that was made since w is appended to the row. -/
theorem SepW.push {d : WD PD QP} {w wa w7 : World} {p : PD} {pv' : Value} (hI : SepW (plainD qas qb) base wb d w) (ga : w.grownBy wa none) (hp : p.ok wa) (hpf : ∀ b, p.foot b → w.heap.size ≤ b) (hg7 : wa.grownBy w7 d.pv.ownBlock)
    (hown : w7.ownsRow base 112 1 pv' (d.ps.length + 1) ((d.ps.map fun p => ptrTo p.pb) ++ [ptrTo p.pb])) (hblk : pv'.ownBlock = d.pv.ownBlock ∨ pv'.ownBlock = some wa.heap.size) :
    SepW (plainD qas qb) base wb { d with pv := pv', ps := d.ps ++ [p] } (w7.setCell ⟨wb, 0, none⟩ pv') ∧ Below base w (w7.setCell ⟨wb, 0, none⟩ pv') := by
  have s1 := ga.size
  have s2 := hg7.size
  have hwb : WD.F (plainD qas qb) wb d 0 wb := rfl
  have hwl := hI.lt 0 wb hwb
  have hpl : ∀ b, d.pv.ownBlock = some b → b < w.heap.size := fun b e => hI.lt 1 b e
  have hne : d.pv.ownBlock ≠ some wb := fun e => by have := hI.one 0 1 wb hwb e; omega
  have hnw : pv'.ownBlock ≠ some wb := by
    rcases hblk with e | e
    · rw [e]; exact hne
    · rw [e]; intro q; injection q with q; omega
  have hb0 : Blk w wb d.cells := hI.here 0
  have hb7 : Blk w7 wb d.cells := (hb0.grown ga (by simp)).grown hg7 (fun e => hne e.symm)
  refine SepW.pair hI ⟨hg7.os.trans ga.os, hg7.tape.trans ga.tape, hg7.output.trans ga.output, by rw [World.size_setCell]; omega, fun b hb hx => ?_⟩ (hb7.set 0 pv') (own_keep hown (fun b hb => Below.heap_setCell _ _ _ _ (fun e => hnw (by rw [hb, e])))) (fun b e => ?_) (hp.keep (fun b hb => ?_)) hpf (fun b hb e => ?_)
  · rw [Below.heap_setCell _ _ _ _ (fun e => hx (.inl e)), hg7.block b (by omega) (fun e => hx (.inr e.symm)), ga.block b hb (by simp)]
  · rcases hblk with e2 | e2
    · exact .inl (by rw [← e2]; exact e)
    · rw [e2] at e; injection e with e; exact .inr (by omega)
  · have h1 := hp.lt hb
    have h2 := hpf b hb
    rw [Below.heap_setCell _ _ _ _ (fun e => by have e : b = wb := e; omega), hg7.block b h1 (fun e => by have := hpl b e.symm; omega)]
  · have h1 := hp.lt hb
    have h2 := hpf b hb
    rcases hblk with e2 | e2
    · have := hpl b (by rw [← e2]; exact e); omega
    · rw [e2] at e; injection e with e; omega
theorem Tryz.infoPair : (Tryz.prog.info? 112).map (fun i => (i.zero, i.size, i.bytes)) = some (some (.pointer none), 1, 8) := by kernel_rfl
/-- A new desk of the document's. -/
theorem RD.new {w : World} {bs yb : Nat} {skew : Int} {dv : Value} {zs : List UInt8} (h : RDesk w bs yb skew (.slice none 0 0) (.slice none 0 0) dv [] zs) : RD w bs yb ⟨skew, [], [], zs⟩ ⟨.slice none 0 0, .slice none 0 0, dv, []⟩ :=
  ⟨h, rfl, World.ownsRow_nil _ _ _ _, by simp [Value.ownBlock], .inl rfl, .inl rfl⟩
set_option maxHeartbeats 1000000 in
theorem free_plain_bad (kind A B C : Int) (K DD : UInt64) (zs : List UInt8) (c1 c6 c8 c9 c10 c11 c12 c13 c14 c15 c16 c17 c18 c19 c20 c21 c22 c23 c24 c25 c26 c27 c28 c29 c30 c31 c32 c33 c34 c35 c36 c37 c38 c39 c40 : Value) (w : World) (hA : c1 = .int .i64 A) (hk1 : (kind == 1) = false) (hk2 : (kind == 2) = false) (hk3 : (kind == 3) = false) (hk4 : (kind == 4) = false) (hk5 : (kind == 5) = true) (hl : zs.length ≤ 140737488351232) (hs : Hid (A < 0 ∨ 300 < A)) :
    Calls Tryz.prog 46 #[.pointer (some ⟨wb, 0, none⟩), .agg #[.int .i64 kind, c1, .int .i64 B, .int .i64 C, .int .u64 (K.toNat : Int), .int .u64 (DD.toNat : Int), c6, .string ⟨zs.toArray⟩, c8, c9, c10, c11, c12, c13, c14, c15, c16, c17, c18, c19, c20, c21, c22, c23, c24, c25, c26, c27, c28, c29, c30, c31, c32, c33, c34, c35, c36, c37, c38, c39, c40]] w fun e w' => e = .returned (.bool true) ∧ w.grownBy w' none := by
  have hl2 : zs.length ≤ 140737488355328 := by omega
  have hO := OpAt.new w kind B C K DD zs c1 c6 c8 c9 c10 c11 c12 c13 c14 c15 c16 c17 c18 c19 c20 c21 c22 c23 c24 c25 c26 c27 c28 c29 c30 c31 c32 c33 c34 c35 c36 c37 c38 c39 c40
  have k1 : (w.alloc (.cells #[.int .i64 kind, c1, .int .i64 B, .int .i64 C, .int .u64 (K.toNat : Int), .int .u64 (DD.toNat : Int), c6, .string ⟨zs.toArray⟩, c8, c9, c10, c11, c12, c13, c14, c15, c16, c17, c18, c19, c20, c21, c22, c23, c24, c25, c26, c27, c28, c29, c30, c31, c32, c33, c34, c35, c36, c37, c38, c39, c40] 82)).cell? ⟨w.heap.size, 1, none⟩ = some c1 := by rw [World.cell?_alloc_at (hn := rfl)]; rfl
  subst hA
  go_enter Tryz.func46, Tryz.ntmps46
  go_wp2_with fail
  refine (lent_all zs _ _ hl).mono ?_
  rintro e w1 ⟨a, cap, gB, rfl, hL, hg1⟩
  have hO1 := hO.grown hg1 (by simp)
  have k1' := gb_cell hg1 k1
  have G1 := gb_trans (World.grownBy_alloc w _ none) hg1
  have hold : ∀ j, some j = gB → w.heap.size + 1 ≤ j := fun j hj => by have := hL.old j hj; simpa using this
  have hgb : gB ≠ some w.heap.size := fun e => by have := hold _ e.symm; omega
  obtain ⟨k0, k2, k3, k4, k5, k7⟩ := hO1
  clear hO hg1 k1
  go_wp2_with fail
  refine (newPlain_bad A _ _ hs.out).mono ?_
  rintro e w2 ⟨rfl, hg2⟩
  have hL2 := hL.grown hg2
  have hO2 : OpAt w2 w.heap.size kind B C K DD zs := OpAt.grown ⟨k0, k2, k3, k4, k5, k7⟩ hg2 (by simp)
  have k1 := gb_cell hg2 k1'
  have G2 := gb_trans G1 hg2
  clear k0 k2 k3 k4 k5 k7 hL G1 hg2 k1'
  obtain ⟨k0, k2, k3, k4, k5, k7⟩ := hO2
  go_wp2_with fail
  refine (back_all zs zs.length a cap gB _ _ (hid rfl) hl hL2).mono ?_
  rintro e w4 ⟨rfl, hg4⟩
  have hO4 : OpAt w4 w.heap.size kind B C K DD zs := OpAt.grown ⟨k0, k2, k3, k4, k5, k7⟩ hg4 hgb
  have k1' : w4.cell? ⟨w.heap.size, 1, none⟩ = some (.int .i64 A) := hg4.cell k1 (fun e => hgb e.symm)
  have G4 : w.grownBy w4 none := gb_newer G2 hg4 (fun j hj => by have := hold j hj; omega)
  clear k0 k2 k3 k4 k5 k7 hg4 hL2 G2 k1
  obtain ⟨k0, k2, k3, k4, k5, k7⟩ := hO4
  go_wp2_with (first | (refine wpList_bytes_of _ rfl _ 9 32 rfl 5 Tryz.underlying9 Tryz.underlying32 Tryz.underlying5 zs rfl hl2 ?_; intro b5 cap5 w5 hc5 hc5m hat5 hg5))
  refine (rNew_bad A _ _ hs.out).mono ?_
  rintro e w6 ⟨rfl, rfl⟩
  have G6 := gb_trans G4 hg5
  clear k0 k2 k3 k4 k5 k7 hg5 G4 hat5 k1'
  go_wp2
  go_ret
  exact ⟨rfl, G6⟩
end Go.Proofs.YtbanfbpfapjfcaaGreatDoor
namespace Go.Proofs.YtbanfbpfapjfcaaGreatDoor
open Go.RowKit
set_option maxRecDepth 100000
variable {QP : Type} {qas : QP → Asrt} {qb : QP → Nat} {base wb : Nat}

/-- A desk more. -/
def MadeP (qas : QP → Asrt) (qb : QP → Nat) (base wb : Nat) (d : WD PD QP) (M : DM) (w w' : World) : Prop :=
  (∃ pv p, SepW (plainD qas qb) base wb { d with pv := pv, ps := d.ps ++ [p] } w' ∧ p.M = M) ∧ Below base w w'

set_option maxHeartbeats 2000000 in
theorem free_plain_ok (d : WD PD QP) (kind A B C : Int) (K DD : UInt64) (zs : List UInt8) (c1 c6 c8 c9 c10 c11 c12 c13 c14 c15 c16 c17 c18 c19 c20 c21 c22 c23 c24 c25 c26 c27 c28 c29 c30 c31 c32 c33 c34 c35 c36 c37 c38 c39 c40 : Value) (w : World) (hA : c1 = .int .i64 A) (hk1 : (kind == 1) = false) (hk2 : (kind == 2) = false) (hk3 : (kind == 3) = false) (hk4 : (kind == 4) = false) (hk5 : (kind == 5) = true) (hl : zs.length ≤ 140737488351232) (h0 : 0 ≤ A) (h1 : A ≤ 300)
    (hI : SepW (plainD qas qb) base wb d w) (hll : (d.ps.length + 1) * 112 ≤ 140737488355328) :
    Calls Tryz.prog 46 #[.pointer (some ⟨wb, 0, none⟩), .agg #[.int .i64 kind, c1, .int .i64 B, .int .i64 C, .int .u64 (K.toNat : Int), .int .u64 (DD.toNat : Int), c6, .string ⟨zs.toArray⟩, c8, c9, c10, c11, c12, c13, c14, c15, c16, c17, c18, c19, c20, c21, c22, c23, c24, c25, c26, c27, c28, c29, c30, c31, c32, c33, c34, c35, c36, c37, c38, c39, c40]] w fun e w' => e = .returned (.bool true) ∧ MadeP qas qb base wb d ⟨A, [], [], zs⟩ w w' := by
  obtain ⟨ie, hie, he0, he1, he2⟩ := info_parts Tryz.infoPair
  have hl2 : zs.length ≤ 140737488355328 := by omega
  have hO := OpAt.new w kind B C K DD zs c1 c6 c8 c9 c10 c11 c12 c13 c14 c15 c16 c17 c18 c19 c20 c21 c22 c23 c24 c25 c26 c27 c28 c29 c30 c31 c32 c33 c34 c35 c36 c37 c38 c39 c40
  have k1 : (w.alloc (.cells #[.int .i64 kind, c1, .int .i64 B, .int .i64 C, .int .u64 (K.toNat : Int), .int .u64 (DD.toNat : Int), c6, .string ⟨zs.toArray⟩, c8, c9, c10, c11, c12, c13, c14, c15, c16, c17, c18, c19, c20, c21, c22, c23, c24, c25, c26, c27, c28, c29, c30, c31, c32, c33, c34, c35, c36, c37, c38, c39, c40] 82)).cell? ⟨w.heap.size, 1, none⟩ = some c1 := by rw [World.cell?_alloc_at (hn := rfl)]; rfl
  have HI := hid hI
  have H01 := hid (And.intro h0 h1)
  subst hA
  clear hI h0 h1
  go_enter Tryz.func46, Tryz.ntmps46
  go_wp2_with fail
  refine (lent_all zs _ _ hl).mono ?_
  rintro e w1 ⟨a, cap, gB, rfl, hL, hg1⟩
  have hO1 := hO.grown hg1 (by simp)
  have k1' := gb_cell hg1 k1
  have G1 := gb_trans (World.grownBy_alloc w _ none) hg1
  have hold : ∀ j, some j = gB → w.heap.size + 1 ≤ j := fun j hj => by have := hL.old j hj; simpa using this
  have hgb : gB ≠ some w.heap.size := fun e => by have := hold _ e.symm; omega
  obtain ⟨k0, k2, k3, k4, k5, k7⟩ := hO1
  clear hO hg1 k1
  go_wp2_with fail
  refine (newPlain_lent A zs zs.length a cap gB _ _ H01.out.1 H01.out.2 (hid rfl) hl2 hL).mono ?_
  rintro e w2 ⟨b, dp, rfl, hD2, hb2, hf2, hq2, hg2⟩
  have hL2 := hL.grown hg2
  have hO2 : OpAt w2 w.heap.size kind B C K DD zs := OpAt.grown ⟨k0, k2, k3, k4, k5, k7⟩ hg2 (by simp)
  have k1 := gb_cell hg2 k1'
  have G2 := gb_trans G1 hg2
  have HLt := hid (fun k hk => hL.lt k hk)
  have s1 := G1.size
  have hB : ∀ k, (k = b ∨ Pl.blk dp = some k) → w1.heap.size ≤ k := by
    rintro k (rfl | e)
    · exact hb2
    · cases dp with
      | none => cases e
      | some q => injection e with e; rw [← e]; exact hf2 q rfl
  have hdx : Pl.blk dp ≠ some b := by
    intro e
    cases dp with
    | none => cases e
    | some q => injection e with e; exact hq2 q rfl e
  have HD2 := hid (And.intro hD2 (And.intro hB hdx))
  clear k0 k2 k3 k4 k5 k7 hL G1 hg2 k1' hb2 hf2 hq2 hD2 hB hdx
  obtain ⟨k0, k2, k3, k4, k5, k7⟩ := hO2
  go_wp2_with fail
  refine (back_all zs zs.length a cap gB _ _ (hid rfl) hl hL2).mono ?_
  rintro e w4 ⟨rfl, hg4⟩
  have hO4 : OpAt w4 w.heap.size kind B C K DD zs := OpAt.grown ⟨k0, k2, k3, k4, k5, k7⟩ hg4 hgb
  have k1' : w4.cell? ⟨w.heap.size, 1, none⟩ = some (.int .i64 A) := hg4.cell k1 (fun e => hgb e.symm)
  have G4 : w.grownBy w4 none := gb_newer G2 hg4 (fun j hj => by have := hold j hj; omega)
  have HD4 : Hid (DeskAt w4 b 0 dp ⟨A, [], [], zs⟩) := HD2.out.1.keep (fun k hk => hg4.block k (HD2.out.1.lt hk) (fun e => by have := HLt.out k e; have := HD2.out.2.1 k hk; omega))
  clear k0 k2 k3 k4 k5 k7 hg4 hL2 G2 k1
  obtain ⟨k0, k2, k3, k4, k5, k7⟩ := hO4
  go_wp2_with (first | (refine wpList_bytes_of _ rfl _ 9 32 rfl 5 Tryz.underlying9 Tryz.underlying32 Tryz.underlying5 zs rfl hl2 ?_; intro b5 cap5 w5 hc5 hc5m hat5 hg5))
  refine (rNew_ok w5.heap.size A zs zs.length _ cap5 _ H01.out.1 H01.out.2 (hid rfl) hl2 (hid (fun e => by cases e)) hat5 (Nat.le_refl _)).mono ?_
  rintro e w6 ⟨dv, rfl, hR6, hg6⟩
  have s5 := hg5.size
  have s6 := hg6.size
  have s4 := G4.size
  have G6 := gb_trans G4 (gb_trans hg5 hg6)
  have hI6 := HI.out.grown G6
  have hrow : w6.ownsRow base 112 1 d.pv d.ps.length (d.ps.map fun p => ptrTo p.pb) := hI6.here 1
  have hb0 : Blk w6 wb d.cells := hI6.here 0
  have hbase := hI6.room
  obtain ⟨ab, cb, hpv⟩ := own_shape hrow
  have c0 : w6.cell? ⟨wb, 0, none⟩ = some (.slice ab d.ps.length cb) := by rw [← hpv]; exact hb0.cell 0
  have hrow' : w6.ownsRow base 112 1 (.slice ab d.ps.length cb) d.ps.length (d.ps.map fun p => ptrTo p.pb) := by rw [← hpv]; exact hrow
  have HPV := hid hpv
  have hne : (Value.slice ab d.ps.length cb).ownBlock ≠ some wb := fun e => by have := hI6.one 0 1 wb rfl (by rw [← hpv] at e; exact e); omega
  have hdv : ∀ k, dv.ownBlock = some k → w5.heap.size ≤ k := fun k e => (hR6.draws.lt k e).1
  have hllp : d.ps.length + 1 ≤ maxLen := by unfold maxLen; omega
  have hllb : (d.ps.length + 1) * 8 ≤ 140737488355328 := by omega
  have HX : Hid (∀ W, (w6.alloc (.cells #[.pointer (some ⟨b, 0, none⟩), .pointer (some ⟨w5.heap.size, 0, none⟩), .slice none 0 0] 183)).grownBy W none → PD.ok ⟨w6.heap.size, b, dp, w5.heap.size, ⟨.slice none 0 0, .slice none 0 0, dv, []⟩, ⟨A, [], [], zs⟩⟩ W) := by
    intro W gW
    have gA := World.grownBy_alloc w6 (.cells #[.pointer (some ⟨b, 0, none⟩), .pointer (some ⟨w5.heap.size, 0, none⟩), .slice none 0 0] 183) none
    have x4 := HD4.out
    have x6 := (x4.grown hg5).grown hg6
    have y6 := RD.new hR6
    have ylt : ∀ k, RG.foot ⟨.slice none 0 0, .slice none 0 0, dv, []⟩ w5.heap.size k → w5.heap.size ≤ k := fun k e => by
      rcases e with e | e | e | e
      · omega
      · cases e
      · cases e
      · exact hdv k e
    exact ⟨(Blk.new w6 _ _).grown gW (by simp), (x6.grown gA).grown gW, ((y6.down (Nat.zero_le _)).keep (fun k hk => (gA.block k (y6.lt k hk).2 (by simp)))).keep (fun k hk => gW.block k (by rw [World.size_alloc]; have := (y6.lt k hk).2; omega) (by simp)), HD2.out.2.2, fun e => by have := x6.lt e; exact absurd this (Nat.lt_irrefl _), fun e => by have := (y6.lt _ e).2; exact absurd this (Nat.lt_irrefl _), fun k hk e => by have := x4.lt hk; have := ylt k e; omega⟩
  have HF : Hid (∀ k, PD.foot ⟨w6.heap.size, b, dp, w5.heap.size, ⟨.slice none 0 0, .slice none 0 0, dv, []⟩, ⟨A, [], [], zs⟩⟩ k → w.heap.size ≤ k) := by
    intro k hk
    rcases hk with e | e | e | e | e | e
    · have e : k = w6.heap.size := e; omega
    · have := HD2.out.2.1 k e; omega
    · have e : k = w5.heap.size := e; omega
    · cases e
    · cases e
    · have := hdv k e; omega
  have HG6 := hid G6
  have HB0 := hid hb0
  clear k0 k2 k3 k4 k5 k7 k1' hg5 hg6 G4 G6 hat5 hR6 hrow hI6 hb0 HD4 hdv hold hgb HLt hpv HD2 s1 s4 s5 s6
  go_wp2_with (at_builtin; refine wpList_append_blk _ rfl _ _ 65 rfl base 112 ie _ 1 8 Tryz.underlying65 hie he0 he1 he2 rfl (by decide) (.slice ab d.ps.length cb) d.ps.length _ rfl ((hrow'.alloc _).alloc _) ⟨w6.heap.size + 1, 0, none⟩ 1 1 [.pointer (some ⟨w6.heap.size, 0, none⟩)] rfl rfl (by have := cells_new (w6.alloc (.cells #[.pointer (some ⟨b, 0, none⟩), .pointer (some ⟨w5.heap.size, 0, none⟩), .slice none 0 0] 183)) 112 [.pointer (some ⟨w6.heap.size, 0, none⟩)]; rw [World.size_alloc] at this; exact this) (by intro u hu; rw [List.mem_singleton.1 hu]; rfl) (by omega) hllp hllb (by rw [World.size_alloc, World.size_alloc]; omega) ?_; intro pv' w7 hown7 hg7 hblk; obtain ⟨ab', cb', hvb'⟩ := own_shape hown7; subst hvb'; have h7w := ((HB0.out.alloc (.cells #[.pointer (some ⟨b, 0, none⟩), .pointer (some ⟨w5.heap.size, 0, none⟩), .slice none 0 0] 183)).alloc (.cells #[.pointer (some ⟨w6.heap.size, 0, none⟩)] 112)).grown hg7 (fun e => hne e.symm); have hc7 := h7w.cell 0; have hf7 := h7w.frozen 0; simp only [List.getElem?_toArray, List.getElem?_cons_zero] at hc7)
  have R := SepW.push (p := ⟨w6.heap.size, b, dp, w5.heap.size, ⟨.slice none 0 0, .slice none 0 0, dv, []⟩, ⟨A, [], [], zs⟩⟩) HI.out (gb_alloc (gb_alloc HG6.out _) _) (HX.out _ (World.grownBy_alloc _ _ none)) HF.out (by rw [HPV.out]; exact hg7) hown7 (by have := hblk.out; rw [HPV.out]; exact this)
  go_ret
  exact ⟨rfl, ⟨_, _, R.1, rfl⟩, R.2⟩
theorem free_plain (d : WD PD QP) (kind A B C : Int) (K DD : UInt64) (zs : List UInt8) (c1 c6 c8 c9 c10 c11 c12 c13 c14 c15 c16 c17 c18 c19 c20 c21 c22 c23 c24 c25 c26 c27 c28 c29 c30 c31 c32 c33 c34 c35 c36 c37 c38 c39 c40 : Value) (w : World) (hA : c1 = .int .i64 A) (hk : kind = 5) (hl : zs.length ≤ 140737488351232) (hI : SepW (plainD qas qb) base wb d w) (hll : (d.ps.length + 1) * 112 ≤ 140737488355328) :
    Calls Tryz.prog 46 #[.pointer (some ⟨wb, 0, none⟩), .agg #[.int .i64 kind, c1, .int .i64 B, .int .i64 C, .int .u64 (K.toNat : Int), .int .u64 (DD.toNat : Int), c6, .string ⟨zs.toArray⟩, c8, c9, c10, c11, c12, c13, c14, c15, c16, c17, c18, c19, c20, c21, c22, c23, c24, c25, c26, c27, c28, c29, c30, c31, c32, c33, c34, c35, c36, c37, c38, c39, c40]] w fun e w' => e = .returned (.bool true) ∧ ((SepW (plainD qas qb) base wb d w' ∧ Below base w w') ∨ MadeP qas qb base wb d ⟨A, [], [], zs⟩ w w') := by
  subst hk
  by_cases hs : A < 0 ∨ 300 < A
  · refine (free_plain_bad 5 A B C K DD zs c1 c6 c8 c9 c10 c11 c12 c13 c14 c15 c16 c17 c18 c19 c20 c21 c22 c23 c24 c25 c26 c27 c28 c29 c30 c31 c32 c33 c34 c35 c36 c37 c38 c39 c40 w hA rfl rfl rfl rfl rfl hl (hid hs)).mono ?_
    rintro e w' ⟨rfl, g⟩
    exact ⟨rfl, .inl ⟨hI.grown g, below_gb g hI.room⟩⟩
  · refine (free_plain_ok d 5 A B C K DD zs c1 c6 c8 c9 c10 c11 c12 c13 c14 c15 c16 c17 c18 c19 c20 c21 c22 c23 c24 c25 c26 c27 c28 c29 c30 c31 c32 c33 c34 c35 c36 c37 c38 c39 c40 w hA rfl rfl rfl rfl rfl hl (by omega) (by omega) hI hll).mono ?_
    rintro e w' ⟨rfl, g⟩
    exact ⟨rfl, .inr g⟩
end Go.Proofs.YtbanfbpfapjfcaaGreatDoor
namespace Go.Proofs.YtbanfbpfapjfcaaGreatDoor
open Go.RowKit
set_option maxRecDepth 100000
variable {QP : Type} {qas : QP → Asrt} {qb : QP → Nat} {base wb : Nat}

section
variable {P : Program} {ops : Array Oper} {Q : Exit → Act → World → Prop} {md : Region.Mode} {S : World → Prop}
/-- An operation that yields its value in every world that meets S comes first. -/
theorem take_at {i t : Nat} {oi : Oper} (v : Value) {fuel : Nat} {listed : Array Bool} {tmps : Array Value} {df : List Deferred} {w : World} (hi : ops.toList[i]? = some oi) (hd : oi.dst = some t)
    (hs : Region.noSelect ops = true) (hf : Region.free md ops listed i = true) (hr : (Region.ready md ops listed).contains i = true)
    (hQ : ∀ c a w, Q (.panic c) (a.put oi.dst v) w → Q (.panic c) a w) (hy : YieldsIf P ops S oi v ⟨tmps, df⟩) (hS : S w)
    (h : wpAnyH P md ops Q S fuel (listed.setIfInBounds i true) ⟨tmps.setIfInBounds t v, df⟩ w) : wpAnyH P md ops Q S (fuel + 1) listed ⟨tmps, df⟩ w := by
  refine wpAnyH_take (by rw [← Array.getElem?_toList]; exact hi) hs hf hr hQ hy hS ?_
  rw [hd]
  exact h
/-- One operation alone may come up. -/
theorem ready_one {i : Nat} {o : Oper} {fuel : Nat} {listed : Array Bool} {a : Act} {w : World} (hi : ops.toList[i]? = some o) (hr : Region.ready md ops listed = [i])
    (h : ∀ K' : Act → World → Prop, Shut (∀ a w, S w → (S w → wpAnyH P md ops Q S fuel (listed.setIfInBounds i true) a w) → K' a w) → if Region.wanted o (yielded ops a.tmps) = true then Oper.wp P o a w K' Q else K' (a.put o.dst undef) w) :
    wpAnyH P md ops Q S (fuel + 1) listed a w :=
  wpAnyH_ready (rs := [i]) hr (by simp) (AllReadyH.cons (by rw [← Array.getElem?_toList]; exact hi) h AllReadyH.nil)
end
set_option maxHeartbeats 1000000 in
theorem step_none (d : WD PD QP) (kind : Int) (cs : Array Value) (w : World) (hk : Hid (kind = 6 ∨ kind = 7 ∨ kind = 8)) (h0 : cs[0]? = some (.int .i64 kind)) (hI : SepW (plainD qas qb) base wb d w) (hps : d.ps = []) :
    Calls Tryz.prog 27 #[.pointer (some ⟨wb, 0, none⟩), .agg cs] w fun e w' => e = .returned (.bool true) ∧ w.grownBy w' none := by
  have G0 := hid (World.grownBy_alloc w (.cells cs 82) none)
  have hI0 := hI.grown G0.out
  have hrow : (w.alloc (.cells cs 82)).ownsRow base 112 1 d.pv d.ps.length (d.ps.map fun p => ptrTo p.pb) := hI0.here 1
  have hb0 : Blk (w.alloc (.cells cs 82)) wb d.cells := hI0.here 0
  obtain ⟨ab, cb, hpv⟩ := own_shape hrow
  rw [hps, List.length_nil] at hpv
  have c0 : (w.alloc (.cells cs 82)).cell? ⟨wb, 0, none⟩ = some (.slice ab 0 cb) := by rw [← hpv]; exact hb0.cell 0
  have k0 : (w.alloc (.cells cs 82)).cell? ⟨w.heap.size, 0, none⟩ = some (.int .i64 kind) := by rw [World.cell?_alloc_at (hn := rfl)]; exact h0
  clear hrow hb0 hpv hI0 hI hps h0
  rcases hk.out with rfl | rfl | rfl
  all_goals
    clear hk
    go_enter Tryz.func27, Tryz.ntmps27
    go_wp2
    go_ret
    exact ⟨rfl, G0.out⟩
set_option maxHeartbeats 2000000 in
theorem step_wplain (d : WD PD QP) (kind A : Int) (cs : Array Value) (k : Nat) (p : PD) (Post : World → Prop) (w : World) (hk : Hid (kind = 6 ∨ kind = 7 ∨ kind = 8)) (hsz : cs.size = 41) (h0 : cs[0]? = some (.int .i64 kind)) (h1 : cs[1]? = some (.int .i64 A)) (hA0 : -9223372036854775808 ≤ A) (hA1 : A ≤ 9223372036854775807) (hn : Hid (d.ps.length ≤ 9223372036854775807)) (hkk : Hid (pickZ A d.ps.length = k)) (hp : d.ps[k]? = some p)
    (hI : SepW (plainD qas qb) base wb d w)
    (HC : ∀ W, w.grownBy W none → Calls Tryz.prog 47 #[.pointer (some ⟨wb, 0, none⟩), .agg cs, .pointer (some ⟨p.pb, 0, none⟩)] W fun e w' => e = .returned (.bool true) ∧ KeptP (plainD qas qb) wb d W w' ∧ Post w') :
    Calls Tryz.prog 27 #[.pointer (some ⟨wb, 0, none⟩), .agg cs] w fun e w' => e = .returned (.bool true) ∧ Post w' := by
  have G0 := World.grownBy_alloc w (.cells cs 82) none
  have HCC : Hid (Calls Tryz.prog 47 #[.pointer (some ⟨wb, 0, none⟩), .agg cs.toList.toArray, .pointer (some ⟨p.pb, 0, none⟩)] ((w.alloc (.cells cs 82)).drewN 1) fun e w' => e = .returned (.bool true) ∧ KeptP (plainD qas qb) wb d ((w.alloc (.cells cs 82)).drewN 1) w' ∧ Post w') := by
    show Calls _ _ _ _ _
    rw [Array.toArray_toList]
    exact HC _ (gb_drewN G0 1)
  have hI0 := hI.grown G0
  have hrow : (w.alloc (.cells cs 82)).ownsRow base 112 1 d.pv d.ps.length (d.ps.map fun p => ptrTo p.pb) := hI0.here 1
  have hb0 : Blk (w.alloc (.cells cs 82)) wb d.cells := hI0.here 0
  have hkl : k < d.ps.length := (List.getElem?_eq_some_iff.1 hp).1
  obtain ⟨n, hnn⟩ : ∃ n, d.ps.length = n := ⟨_, rfl⟩
  obtain ⟨rb, cb, hpv⟩ : ∃ rb cb, d.pv = .slice (some ⟨rb, 0, none⟩) n cb := by
    rcases hrow.2 with ⟨_, e⟩ | ⟨g, cap, cur, hv, _⟩
    · omega
    · exact ⟨g, cap, by rw [← hnn]; exact hv⟩
  have hrow' := hrow
  rw [hpv, hnn] at hrow'
  have c0 : (w.alloc (.cells cs 82)).cell? ⟨wb, 0, none⟩ = some (.slice (some ⟨rb, 0, none⟩) n cb) := by rw [← hpv]; exact hb0.cell 0
  have k0 : (w.alloc (.cells cs 82)).cell? ⟨w.heap.size, 0, none⟩ = some (.int .i64 kind) := by rw [World.cell?_alloc_at (hn := rfl)]; exact h0
  have k1 : (w.alloc (.cells cs 82)).cell? ⟨w.heap.size, 1, none⟩ = some (.int .i64 A) := by rw [World.cell?_alloc_at (hn := rfl)]; exact h1
  have hr : (w.alloc (.cells cs 82)).cell? ⟨rb, k, none⟩ = some (.pointer (some ⟨p.pb, 0, none⟩)) := by
    obtain ⟨b, off, e1, e2⟩ := own_cat hrow' k (ptrTo p.pb) (by rw [List.getElem?_map, hp]; rfl)
    injection e1 with e1
    injection e1 with e1 e3 _
    subst e1 e3
    rw [Nat.zero_add] at e2
    exact e2
  have BO : Blk (w.alloc (.cells cs 82)) w.heap.size cs := Blk.new w cs 82
  have RO : (w.alloc (.cells cs 82)).rangeAt w.heap.size 0 cs.toList := BO.range
  have HSZ : Hid ((Tryz.prog.info? 82).map (·.size) = some cs.toList.length) := by show _ = _; rw [Tryz.size82, Array.length_toList, hsz]
  have hrl : rb < w.heap.size := hI.lt 1 rb (by show d.pv.ownBlock = some rb; rw [hpv]; rfl)
  have hK : ∀ b, (b = w.heap.size ∨ b = rb) → ¬ HeldB (plainD qas qb) wb d b := by
    rintro b (rfl | rfl) ⟨j, hj, hf⟩
    · have := hI.lt j _ hf; omega
    · exact hj (hI.one j 1 b hf (by show d.pv.ownBlock = some b; rw [hpv]; rfl))
  have HKP : Hid (∀ w', KeptP (plainD qas qb) wb d ((w.alloc (.cells cs 82)).drewN 1) w' → w'.cell? ⟨wb, 0, none⟩ = some (.slice (some ⟨rb, 0, none⟩) n cb) ∧ w'.cell? ⟨w.heap.size, 1, none⟩ = some (.int .i64 A) ∧ w'.cell? ⟨rb, k, none⟩ = some (.pointer (some ⟨p.pb, 0, none⟩)) ∧ w'.rangeAt w.heap.size 0 cs.toList) := by
    intro w' hk'
    have e1 : w'.heap[w.heap.size]? = (w.alloc (.cells cs 82)).heap[w.heap.size]? := hk'.blk w.heap.size (by show w.heap.size < (w.alloc _).heap.size; rw [World.size_alloc]; omega) (hK _ (.inl rfl))
    have e2 : w'.heap[rb]? = (w.alloc (.cells cs 82)).heap[rb]? := hk'.blk rb (by show rb < (w.alloc _).heap.size; rw [World.size_alloc]; omega) (hK _ (.inr rfl))
    refine ⟨by rw [← hpv]; exact hk'.pv, ?_, ?_, (BO.kept e1).range⟩
    · rw [World.cell?_of_block (a := ⟨w.heap.size, 1, none⟩) e1]; exact k1
    · rw [World.cell?_of_block (a := ⟨rb, k, none⟩) e2]; exact hr
  have hnI : (0 : Int) < (n : Int) := by omega
  have hkn : k < n := by omega
  have hkI0 : (0 : Int) ≤ (k : Int) := by omega
  have hkI : (k : Int) < (n : Int) := by omega
  have HPk := hid (pick_any A n ((w.alloc (.cells cs 82)).drewN 1) hA0 hA1 (by omega) (by have := hn.out; omega))
  have hkk' := hkk.out
  rw [hnn] at hkk'
  rw [hkk'] at HPk
  clear hkk' hkk hn hI hI0 hrow hrow' hb0 hpv hp hkl hnn hrl hK BO G0 HC hA0 hA1 h0 h1 hsz
  rcases hk.out with rfl | rfl | rfl
  all_goals
    clear hk
    go_enter Tryz.func27, Tryz.ntmps27
    go_wp2_with fail
    refine wp_region_held_drew (S := (fun w' => w'.cell? ⟨wb, 0, none⟩ = some (.slice (some ⟨rb, 0, none⟩) n cb) ∧ w'.cell? ⟨w.heap.size, 1, none⟩ = some (.int .i64 A) ∧ w'.cell? ⟨rb, k, none⟩ = some (.pointer (some ⟨p.pb, 0, none⟩)) ∧ w'.rangeAt w.heap.size 0 cs.toList)) (by kernel_rfl) ⟨c0, k1, hr, RO⟩ (fun hHeld => ?_)
    refine take_at (i := 0) (t := 27) (.pointer (some ⟨wb, 0, none⟩)) rfl rfl (by kernel_rfl) (by kernel_rfl) (by kernel_rfl) (fun _ _ _ h => h) (Or.inl ⟨by rfl, fun w' hSw => by obtain ⟨s1, s2, s3, s4⟩ := hSw; go_simp⟩) (by assumption) ?_
    simp only [List.setIfInBounds_toArray, List.set_cons_zero, List.set_cons_succ]
    refine take_at (i := 1) (t := 28) (.agg cs.toList.toArray) rfl rfl (by kernel_rfl) (by kernel_rfl) (by kernel_rfl) (fun _ _ _ h => h) (yieldsIf_load_mid (by rfl) _ _ rfl w.heap.size 0 rfl cs.toList _ (fun w' h => h.2.2.2) Tryz.underlying82 rfl HSZ.out) (by assumption) ?_
    simp only [List.setIfInBounds_toArray, List.set_cons_zero, List.set_cons_succ]
    refine take_at (i := 2) (t := 29) (.pointer (some ⟨wb, 0, none⟩)) rfl rfl (by kernel_rfl) (by kernel_rfl) (by kernel_rfl) (fun _ _ _ h => h) (Or.inl ⟨by rfl, fun w' hSw => by obtain ⟨s1, s2, s3, s4⟩ := hSw; go_simp⟩) (by assumption) ?_
    simp only [List.setIfInBounds_toArray, List.set_cons_zero, List.set_cons_succ]
    refine take_at (i := 3) (t := 30) (.pointer (some ⟨wb, 0, none⟩)) rfl rfl (by kernel_rfl) (by kernel_rfl) (by kernel_rfl) (fun _ _ _ h => h) (Or.inl ⟨by rfl, fun w' hSw => by obtain ⟨s1, s2, s3, s4⟩ := hSw; go_simp⟩) (by assumption) ?_
    simp only [List.setIfInBounds_toArray, List.set_cons_zero, List.set_cons_succ]
    refine take_at (i := 4) (t := 31) (.pointer (some ⟨wb, 0, none⟩)) rfl rfl (by kernel_rfl) (by kernel_rfl) (by kernel_rfl) (fun _ _ _ h => h) (Or.inl ⟨by rfl, fun w' hSw => by obtain ⟨s1, s2, s3, s4⟩ := hSw; go_simp⟩) (by assumption) ?_
    simp only [List.setIfInBounds_toArray, List.set_cons_zero, List.set_cons_succ]
    refine take_at (i := 5) (t := 32) (.slice (some ⟨rb, 0, none⟩) n cb) rfl rfl (by kernel_rfl) (by kernel_rfl) (by kernel_rfl) (fun _ _ _ h => h) (Or.inl ⟨by rfl, fun w' hSw => by obtain ⟨s1, s2, s3, s4⟩ := hSw; go_simp⟩) (by assumption) ?_
    simp only [List.setIfInBounds_toArray, List.set_cons_zero, List.set_cons_succ]
    refine take_at (i := 6) (t := 33) (.pointer (some ⟨w.heap.size, 1, none⟩)) rfl rfl (by kernel_rfl) (by kernel_rfl) (by kernel_rfl) (fun _ _ _ h => h) (Or.inl ⟨by rfl, fun w' hSw => by obtain ⟨s1, s2, s3, s4⟩ := hSw; go_simp⟩) (by assumption) ?_
    simp only [List.setIfInBounds_toArray, List.set_cons_zero, List.set_cons_succ]
    refine take_at (i := 7) (t := 34) (.int .i64 A) rfl rfl (by kernel_rfl) (by kernel_rfl) (by kernel_rfl) (fun _ _ _ h => h) (Or.inl ⟨by rfl, fun w' hSw => by obtain ⟨s1, s2, s3, s4⟩ := hSw; go_simp⟩) (by assumption) ?_
    simp only [List.setIfInBounds_toArray, List.set_cons_zero, List.set_cons_succ]
    refine take_at (i := 8) (t := 35) (.pointer (some ⟨wb, 0, none⟩)) rfl rfl (by kernel_rfl) (by kernel_rfl) (by kernel_rfl) (fun _ _ _ h => h) (Or.inl ⟨by rfl, fun w' hSw => by obtain ⟨s1, s2, s3, s4⟩ := hSw; go_simp⟩) (by assumption) ?_
    simp only [List.setIfInBounds_toArray, List.set_cons_zero, List.set_cons_succ]
    refine take_at (i := 9) (t := 36) (.pointer (some ⟨wb, 0, none⟩)) rfl rfl (by kernel_rfl) (by kernel_rfl) (by kernel_rfl) (fun _ _ _ h => h) (Or.inl ⟨by rfl, fun w' hSw => by obtain ⟨s1, s2, s3, s4⟩ := hSw; go_simp⟩) (by assumption) ?_
    simp only [List.setIfInBounds_toArray, List.set_cons_zero, List.set_cons_succ]
    refine take_at (i := 10) (t := 37) (.pointer (some ⟨wb, 0, none⟩)) rfl rfl (by kernel_rfl) (by kernel_rfl) (by kernel_rfl) (fun _ _ _ h => h) (Or.inl ⟨by rfl, fun w' hSw => by obtain ⟨s1, s2, s3, s4⟩ := hSw; go_simp⟩) (by assumption) ?_
    simp only [List.setIfInBounds_toArray, List.set_cons_zero, List.set_cons_succ]
    refine take_at (i := 11) (t := 38) (.slice (some ⟨rb, 0, none⟩) n cb) rfl rfl (by kernel_rfl) (by kernel_rfl) (by kernel_rfl) (fun _ _ _ h => h) (Or.inl ⟨by rfl, fun w' hSw => by obtain ⟨s1, s2, s3, s4⟩ := hSw; go_simp⟩) (by assumption) ?_
    simp only [List.setIfInBounds_toArray, List.set_cons_zero, List.set_cons_succ]
    refine take_at (i := 12) (t := 39) (.int .i64 (n : Int)) rfl rfl (by kernel_rfl) (by kernel_rfl) (by kernel_rfl) (fun _ _ _ h => h) (Or.inl ⟨by rfl, fun w' hSw => by obtain ⟨s1, s2, s3, s4⟩ := hSw; go_simp⟩) (by assumption) ?_
    simp only [List.setIfInBounds_toArray, List.set_cons_zero, List.set_cons_succ]
    refine ready_one (i := 13) rfl (by kernel_rfl) (fun K hK => ?_)
    go_simp
    refine HPk.out.mono ?_
    rintro e w' ⟨rfl, rfl⟩
    go_wp2_with fail
    refine hK.out _ _ hHeld (fun hHeld => ?_)
    clear hK K
    refine take_at (i := 14) (t := 41) (.pointer (some ⟨rb, k, none⟩)) rfl rfl (by kernel_rfl) (by kernel_rfl) (by kernel_rfl) (fun _ _ _ h => h) (Or.inl ⟨by rfl, fun w' hSw => by obtain ⟨s1, s2, s3, s4⟩ := hSw; go_simp⟩) (by assumption) ?_
    simp only [List.setIfInBounds_toArray, List.set_cons_zero, List.set_cons_succ]
    refine take_at (i := 15) (t := 42) (.pointer (some ⟨p.pb, 0, none⟩)) rfl rfl (by kernel_rfl) (by kernel_rfl) (by kernel_rfl) (fun _ _ _ h => h) (Or.inl ⟨by rfl, fun w' hSw => by obtain ⟨s1, s2, s3, s4⟩ := hSw; go_simp⟩) (by assumption) ?_
    simp only [List.setIfInBounds_toArray, List.set_cons_zero, List.set_cons_succ]
    refine ready_one (i := 16) rfl (by kernel_rfl) (fun K hK => ?_)
    go_simp
    refine HCC.out.mono ?_
    rintro e w9 ⟨rfl, hkp, hpost⟩
    go_wp2_with fail
    refine hK.out _ _ (HKP.out _ hkp) (fun hHeld => ?_)
    clear hK K
    refine take_at (i := 17) (t := 4) (.bool true) rfl rfl (by kernel_rfl) (by kernel_rfl) (by kernel_rfl) (fun _ _ _ h => h) (Or.inl ⟨by rfl, fun w' hSw => by obtain ⟨s1, s2, s3, s4⟩ := hSw; go_simp⟩) (by assumption) ?_
    simp only [List.setIfInBounds_toArray, List.set_cons_zero, List.set_cons_succ]
    refine wpAnyH_done (by kernel_rfl) ?_ _
    go_wp2
    go_ret
    exact ⟨rfl, hpost⟩
end Go.Proofs.YtbanfbpfapjfcaaGreatDoor
