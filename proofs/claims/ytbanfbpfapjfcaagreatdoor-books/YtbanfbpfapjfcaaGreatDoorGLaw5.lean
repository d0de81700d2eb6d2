/-
  Lists that came out of a step, under what the world holds; contract of World.free at a step that seals. Conditions: in each statement.
-/
import Derived.Test.YtbanfbpfapjfcaaGreatDoorGLaw4
import Derived.Test.YtbanfbpfapjfcaaGreatDoorGLSepByte
namespace Go.Proofs.YtbanfbpfapjfcaaGreatDoor
open Go.RowKit
set_option maxRecDepth 100000
variable {PP QP : Type} {D : Desks PP QP} {base wb : Nat}

theorem below_gb {base : Nat} {w w' : World} (h : w.grownBy w' none) (hb : base ≤ w.heap.size) : Below base w w' := ⟨h.os, h.tape, h.output, h.size, fun k hk => h.block k (by omega) (by simp)⟩
theorem below_frm {base : Nat} {w w' : World} {ex : Nat → Prop} (h : Frm w w' ex) (hb : base ≤ w.heap.size) (hx : ∀ k, ex k → base ≤ k) : Below base w w' :=
  ⟨h.os, h.tape, h.output, h.size, fun k hk => h.block k (by omega) (fun e => by have := hx k e; omega)⟩
def badSeal (B : Int) (n : Nat) : Prop := isU B = false ∨ (isU B = true ∧ 200 < n)
theorem isU_out {B : Int} (h : isU B = false) : B < 1 ∨ 5 < B := by simp [isU] at h; omega
theorem isU_in {B : Int} (h : isU B = true) : 1 ≤ B ∧ B ≤ 5 := by simp [isU] at h; omega
theorem wseal_bad (K D : UInt64) (B : Int) (a : Option Addr) (n cap : Nat) (w : World) (h : Hid (badSeal B n)) :
    Calls Tryz.prog 41 #[.int .u64 (K.toNat : Int), .int .i64 B, .int .u64 (D.toNat : Int), .slice a n cap] w fun e w' => e = .returned (.tuple #[.slice none 0 0, .int .i64 1]) ∧ w = w' := by
  rcases h.out with h | ⟨h1, h2⟩
  · exact wseal_use _ _ B _ w h
  · exact wseal_long _ _ B a n cap w h1 h2
theorem rseal_bad (K D : UInt64) (B : Int) (a : Option Addr) (n cap : Nat) (w : World) (h : Hid (badSeal B n)) :
    Calls Tryz.prog 71 #[.int .u64 (K.toNat : Int), .int .i64 B, .int .u64 (D.toNat : Int), .slice a n cap] w fun e w' => e = .returned (.tuple #[.slice none 0 0, .int .i64 1]) ∧ w = w' := by
  rcases h.out with h | ⟨h1, h2⟩
  · exact rseal_use _ _ B _ w (isU_out h)
  · exact rseal_long _ _ B a n cap w (isU_in h1).1 (isU_in h1).2 h2

/-- The world has some lists more, and nothing else has changed. -/
structure More (D : Desks PP QP) (base wb c : Nat) (d : WD PP QP) (w w' : World) : Prop where
  sep : ∃ d', SepW D base wb d' w' ∧ d'.ps = d.ps ∧ d'.qs = d.qs ∧ d'.eb.length ≤ d.eb.length + c ∧ d'.ei.length ≤ d.ei.length + c ∧ d'.es.length ≤ d.es.length + c ∧ d'.dv = d.dv ∧ d'.ed = d.ed
  below : Below base w w'
theorem More.before {c : Nat} {d : WD PP QP} {w0 w w' : World} (h : More D base wb c d w w') (g : w0.grownBy w none) (hb : base ≤ w0.heap.size) : More D base wb c d w0 w' := ⟨h.sep, (below_gb g hb).trans h.below⟩
theorem More.none {d : WD PP QP} {w w' : World} (c : Nat) (h : SepW D base wb d w) (g : w.grownBy w' none) : More D base wb c d w w' :=
  ⟨⟨d, h.grown g, rfl, rfl, by omega, by omega, by omega, rfl, rfl⟩, below_gb g h.room⟩

/-- One list of bytes that came out since w0 is written over. -/
theorem byte_step (d : WD PP QP) (v : Value) (p : Option Pl) (bs : List UInt8) (n : Nat) (w : World) (hS : SepW D base wb d w) (hO : Out w v p bs) (hn : Hid (bs.length = n)) (hnl : n ≤ 100000) (hfr : ∀ q, p = some q → base ≤ q.g ∧ ∀ j, ¬ WD.F D wb d j q.g) (hll : (d.eb.length + 1) * 112 ≤ 140737488355328) :
    Calls Tryz.prog 72 #[.pointer (some ⟨wb, 2, none⟩), v] w fun e w' => e = .returned (.tuple #[]) ∧ (∃ x v', SepW D base wb { d with bv := v', eb := d.eb ++ [x] } w' ∧ ∀ j b, WD.F D wb { d with bv := v', eb := d.eb ++ [x] } j b → WD.F D wb d j b ∨ Pl.blk p = some b ∨ w.heap.size ≤ b) ∧ Below base w w' ∧ Frm w w' (fun b => b = wb ∨ d.bv.ownBlock = some b ∨ Pl.blk p = some b) := by
  have h0 : Blk w wb d.cells := hS.here 0
  have h3 : w.ownsRow base 117 5 d.bv d.eb.length (evCells d.eb) := hS.here 3
  have hwb : WD.F D wb d 0 wb := rfl
  have hbv : d.bv.ownBlock ≠ some wb := fun e => by have := hS.one 0 3 wb hwb e; omega
  have hB : ∀ g, Pl.blk p = some g → ∃ q, p = some q ∧ q.g = g := by
    intro g hg
    cases p with
    | none => cases hg
    | some q => exact ⟨q, rfl, by injection hg⟩
  refine (lbyte_O base wb n v p bs d.eb d.bv d.cells w h0 rfl h3 hbv hS.room hn hnl hO (fun g hg => ?_) hll).mono ?_
  · obtain ⟨q, hq, rfl⟩ := hB g hg
    exact ⟨fun e => (hfr q hq).2 0 e, fun e => (hfr q hq).2 3 e⟩
  · rintro e w' ⟨rfl, hM⟩
    have hM' := hM
    obtain ⟨x, v', _, _, _, _, h4, _⟩ := hM'
    have R := hS.byte (fun g hg => by obtain ⟨q, hq, rfl⟩ := hB g hg; exact ⟨(hfr q hq).1, hO.ltg q hq, (hfr q hq).2⟩) hM
    exact ⟨rfl, R.1, R.2, h4⟩
theorem Out.frm {w w' : World} {ex : Nat → Prop} {v : Value} {p : Option Pl} {bs : List UInt8} (h : Out w v p bs) (f : Frm w w' ex) (hx : ∀ q, p = some q → ¬ ex q.g) : Out w' v p bs := by
  rcases h with h | ⟨q, hp, hv, h1, h2, h3, h4⟩
  · exact .inl h
  · have hb : w'.heap[q.g]? = w.heap[q.g]? := f.block q.g h3.lt (hx q hp)
    obtain ⟨cur, e, k1, k2⟩ := h3
    refine .inr ⟨q, hp, hv, h1, h2, ⟨cur, e, hb.trans k1, k2⟩, fun j u hu => ?_⟩
    rw [World.cell?_of_block (w := w) (w' := w') (a := ⟨q.g, q.off + j, none⟩) hb]
    exact h4 j u hu
/-- Two of them, one behind the other. -/
theorem byte_two (d : WD PP QP) (v1 v2 : Value) (p1 p2 : Option Pl) (b1 b2 : List UInt8) (w0 w : World) (hS : SepW D base wb d w0) (G : w0.grownBy w none) (o1 : Out w v1 p1 b1) (o2 : Out w v2 p2 b2) (l1 : b1.length ≤ 100000) (l2 : b2.length ≤ 100000) (f1 : Pl.fresh w0.heap.size p1) (f2 : Pl.fresh w0.heap.size p2)
    (hne : ∀ q1 q2, p1 = some q1 → p2 = some q2 → q1.g ≠ q2.g) (hll : (d.eb.length + 2) * 112 ≤ 140737488355328) :
    Calls Tryz.prog 72 #[.pointer (some ⟨wb, 2, none⟩), v1] w fun e w' => e = .returned (.tuple #[]) ∧
      Calls Tryz.prog 72 #[.pointer (some ⟨wb, 2, none⟩), v2] w' fun e w' => e = .returned (.tuple #[]) ∧ More D base wb 2 d w0 w' := by
  have hnob : ∀ b, w0.heap.size ≤ b → ∀ j, ¬ WD.F D wb d j b := fun b hb j hj => by have := hS.lt j b hj; omega
  have hroom := hS.room
  have hG := G.size
  have fr : ∀ p, Pl.fresh w0.heap.size p → ∀ q, p = some q → base ≤ q.g ∧ ∀ j, ¬ WD.F D wb d j q.g := fun p hp q hq => ⟨by have := hp q hq; omega, hnob _ (hp q hq)⟩
  refine (byte_step d v1 p1 b1 b1.length w (hS.grown G) o1 (hid rfl) l1 (fr p1 f1) (by omega)).mono ?_
  rintro e w1 ⟨rfl, ⟨x, v', S1, X1⟩, B1, F1⟩
  refine ⟨rfl, ?_⟩
  have o2' : Out w1 v2 p2 b2 := o2.frm F1 (fun q2 hq2 e => by
    rcases e with e | e | e
    · exact (fr p2 f2 q2 hq2).2 0 e
    · exact (fr p2 f2 q2 hq2).2 3 e
    · cases hp : p1 with
      | none => rw [hp] at e; cases e
      | some q1 => rw [hp] at e; injection e with e; exact hne q1 q2 hp hq2 e)
  have fr2 : ∀ q, p2 = some q → base ≤ q.g ∧ ∀ j, ¬ WD.F D wb { d with bv := v', eb := d.eb ++ [x] } j q.g := by
    intro q hq
    refine ⟨(fr p2 f2 q hq).1, fun j hj => ?_⟩
    rcases X1 j q.g hj with e | e | e
    · exact (fr p2 f2 q hq).2 j e
    · cases hp : p1 with
      | none => rw [hp] at e; cases e
      | some q1 => rw [hp] at e; injection e with e; exact hne q1 q hp hq e
    · have := o2.ltg q hq; omega
  refine (byte_step _ v2 p2 b2 b2.length w1 S1 o2' (hid rfl) l2 fr2 (by show ((d.eb ++ [x]).length + 1) * 112 ≤ _; rw [List.length_append]; simp; omega)).mono ?_
  rintro e w2 ⟨rfl, ⟨y, v'', S2, _⟩, B2, _⟩
  exact ⟨rfl, ⟨_, S2, rfl, rfl, by simp, by simp, by simp, rfl, rfl⟩, ((below_gb G hroom).trans B1).trans B2⟩
theorem Buf.out {w : World} {g n : Nat} {bs : List UInt8} (h : Buf w g n bs) (hn : Hid (bs.length = n)) : Out w (.slice (some ⟨g, 0, none⟩) n n) (some ⟨g, 0, n⟩) bs := by
  obtain ⟨h1, h2⟩ := Out.buf h
  exact .inr ⟨_, rfl, by rw [hn.out], by rw [hn.out]; exact Nat.le_refl _, h.maxLen, by simpa using h1, h2⟩

set_option maxHeartbeats 1000000 in
theorem free_seal_bad (d : WD PP QP) (kind B C : Int) (K DD : UInt64) (zs : List UInt8) (c1 c6 c8 c9 c10 c11 c12 c13 c14 c15 c16 c17 c18 c19 c20 c21 c22 c23 c24 c25 c26 c27 c28 c29 c30 c31 c32 c33 c34 c35 c36 c37 c38 c39 c40 : Value) (w : World) (hk1 : (kind == 1) = false) (hk2 : (kind == 2) = true) (hl : zs.length ≤ 140737488351232) (hbad : Hid (badSeal B zs.length))
    (hI : SepW D base wb d w) (hll : (d.eb.length + 2) * 112 ≤ 140737488355328) :
    Calls Tryz.prog 46 #[.pointer (some ⟨wb, 0, none⟩), .agg #[.int .i64 kind, c1, .int .i64 B, .int .i64 C, .int .u64 (K.toNat : Int), .int .u64 (DD.toNat : Int), c6, .string ⟨zs.toArray⟩, c8, c9, c10, c11, c12, c13, c14, c15, c16, c17, c18, c19, c20, c21, c22, c23, c24, c25, c26, c27, c28, c29, c30, c31, c32, c33, c34, c35, c36, c37, c38, c39, c40]] w fun e w' => e = .returned (.bool true) ∧ More D base wb 2 d w w' := by
  have hl2 : zs.length ≤ 140737488355328 := by omega
  have hO := OpAt.new w kind B C K DD zs c1 c6 c8 c9 c10 c11 c12 c13 c14 c15 c16 c17 c18 c19 c20 c21 c22 c23 c24 c25 c26 c27 c28 c29 c30 c31 c32 c33 c34 c35 c36 c37 c38 c39 c40
  have heq := fun (w : World) => Lib.run_eql_slice_nil (P := Tryz.prog) w 32 5 none 0 0 0 0 Tryz.underlying32
  have hcv := fun (w : World) => run_string_of (P := Tryz.prog) w 32 9 5 Tryz.underlying32 Tryz.underlying5 Tryz.underlying9 none 0 [] (At.nil w none)
  simp only [List.length_nil] at hcv
  go_enter Tryz.func46, Tryz.ntmps46
  go_wp2_with fail
  refine (lent_all zs _ _ hl).mono ?_
  rintro e w1 ⟨a, cap, gB, rfl, hL, hg1⟩
  have hO1 := hO.grown hg1 (by simp)
  have G1 := gb_trans (World.grownBy_alloc w _ none) hg1
  have hold : ∀ j, some j = gB → w.heap.size + 1 ≤ j := fun j hj => by have := hL.old j hj; simpa using this
  have hgb : gB ≠ some w.heap.size := fun e => by have := hold _ e.symm; omega
  obtain ⟨k0, k2, k3, k4, k5, k7⟩ := hO1
  clear hO
  go_wp2_with (go_at_call 41; refine (wseal_bad K DD B a zs.length cap _ hbad).mono ?_; rintro e w' ⟨rfl, rfl⟩)
  refine (back_all zs zs.length a cap gB _ _ (hid rfl) hl hL).mono ?_
  rintro e w2 ⟨rfl, hg2⟩
  have hO2 : OpAt w2 w.heap.size kind B C K DD zs := OpAt.grown ⟨k0, k2, k3, k4, k5, k7⟩ hg2 hgb
  have G2 : w.grownBy w2 none := gb_newer G1 hg2 (fun j hj => by have := hold j hj; omega)
  clear k0 k2 k3 k4 k5 k7 hg1 hg2 hL G1
  obtain ⟨k0, k2, k3, k4, k5, k7⟩ := hO2
  go_wp2_with (first | (refine wpList_bytes_of _ rfl _ 9 32 rfl 5 Tryz.underlying9 Tryz.underlying32 Tryz.underlying5 zs rfl hl2 ?_; intro b3 cap3 w3 hc3 hc3m hat3 hg3) | (go_at_call 71; refine (rseal_bad K DD B _ zs.length cap3 _ hbad).mono ?_; rintro e w' ⟨rfl, rfl⟩))
  have G3 := gb_trans G2 hg3
  have CC := byte_two d (.slice none 0 0) (.slice none 0 0) none none [] [] w w3 hI G3 (Out.nil _) (Out.nil _) (by simp) (by simp) (fun q hq => by cases hq) (fun q hq => by cases hq) (fun q1 q2 hq => by cases hq) hll
  clear hI G2 hg3 G3 hat3 k0 k2 k3 k4 k5 k7
  refine CC.mono ?_
  rintro e w4 ⟨rfl, CD⟩
  clear CC
  go_wp2_with fail
  refine CD.mono ?_
  rintro e w5 ⟨rfl, R⟩
  clear CD
  go_wp2
  go_ret
  exact ⟨rfl, R⟩

set_option maxHeartbeats 1000000 in
theorem free_seal_ok (d : WD PP QP) (kind B C : Int) (K DD : UInt64) (zs : List UInt8) (c1 c6 c8 c9 c10 c11 c12 c13 c14 c15 c16 c17 c18 c19 c20 c21 c22 c23 c24 c25 c26 c27 c28 c29 c30 c31 c32 c33 c34 c35 c36 c37 c38 c39 c40 : Value) (w : World) (hk1 : (kind == 1) = false) (hk2 : (kind == 2) = true) (hl : zs.length ≤ 200) (hU : isU B = true)
    (hI : SepW D base wb d w) (hll : (d.eb.length + 2) * 112 ≤ 140737488355328) :
    Calls Tryz.prog 46 #[.pointer (some ⟨wb, 0, none⟩), .agg #[.int .i64 kind, c1, .int .i64 B, .int .i64 C, .int .u64 (K.toNat : Int), .int .u64 (DD.toNat : Int), c6, .string ⟨zs.toArray⟩, c8, c9, c10, c11, c12, c13, c14, c15, c16, c17, c18, c19, c20, c21, c22, c23, c24, c25, c26, c27, c28, c29, c30, c31, c32, c33, c34, c35, c36, c37, c38, c39, c40]] w fun e w' => e = .returned (.bool true) ∧ More D base wb 2 d w w' := by
  have hl1 : zs.length ≤ 140737488351232 := by omega
  have hl2 : zs.length ≤ 140737488355328 := by omega
  have hB := isU_in hU
  obtain ⟨hB1, hB2⟩ := hB
  have HU : Hid (B = ((UInt64.ofNat B.toNat).toNat : Int)) := by show _ = _; rw [Pure.ofNat_small _ (by omega), Int.toNat_of_nonneg (by omega)]
  generalize UInt64.ofNat B.toNat = uu at *
  obtain ⟨S, HS⟩ : ∃ S, Hid (S = Pure.sealL K uu DD zs) := ⟨_, hid rfl⟩
  have HSl : Hid (S.length = zs.length + 16) := by show _ = _; rw [HS.out, Pure.sealL_length]
  have hO := OpAt.new w kind B C K DD zs c1 c6 c8 c9 c10 c11 c12 c13 c14 c15 c16 c17 c18 c19 c20 c21 c22 c23 c24 c25 c26 c27 c28 c29 c30 c31 c32 c33 c34 c35 c36 c37 c38 c39 c40
  go_enter Tryz.func46, Tryz.ntmps46
  go_wp2_with fail
  refine (lent_all zs _ _ hl1).mono ?_
  rintro e w1 ⟨a, cap, gB, rfl, hL, hg1⟩
  have hO1 := hO.grown hg1 (by simp)
  have G1 := gb_trans (World.grownBy_alloc w _ none) hg1
  have hold : ∀ j, some j = gB → w.heap.size + 1 ≤ j := fun j hj => by have := hL.old j hj; simpa using this
  have hgb : gB ≠ some w.heap.size := fun e => by have := hold _ e.symm; omega
  have hgl : ∀ j, some j = gB → j < w1.heap.size := by
    intro j hj
    rcases hL with ⟨_, _, _, h⟩ | ⟨g, _, h2, _, h4⟩
    · rw [h] at hj; cases hj
    · rw [h2] at hj; cases hj; exact h4.lt
  obtain ⟨k0, k2, k3, k4, k5, k7⟩ := hO1
  clear hO hg1
  go_wp2_with fail
  refine (wseal_ok K uu DD B a zs zs.length cap _ hU HU (hid rfl) hl hL.at).mono ?_
  rintro e w2 ⟨g1, rfl, o1, hb1, hg2⟩
  rw [← HS.out] at hb1
  have hL2 := hL.grown hg2
  have hO2 : OpAt w2 w.heap.size kind B C K DD zs := OpAt.grown ⟨k0, k2, k3, k4, k5, k7⟩ hg2 (by simp)
  clear k0 k2 k3 k4 k5 k7
  obtain ⟨k0, k2, k3, k4, k5, k7⟩ := hO2
  go_wp2_with fail
  refine (wseal_ok K uu DD B a zs zs.length cap _ hU HU (hid rfl) hl hL2.at).mono ?_
  rintro e w3 ⟨g2, rfl, o2, hb2, hg3⟩
  rw [← HS.out] at hb2
  have hL3 := hL2.grown hg3
  have hb1' := hb1.grown hg3 (by simp)
  have hne : g1 ≠ g2 := by have := hb1.lt; omega
  have hO3 : OpAt w3 w.heap.size kind B C K DD zs := OpAt.grown ⟨k0, k2, k3, k4, k5, k7⟩ hg3 (by simp)
  clear k0 k2 k3 k4 k5 k7
  obtain ⟨k0, k2, k3, k4, k5, k7⟩ := hO3
  go_wp2_with fail
  refine (back_all zs zs.length a cap gB _ _ (hid rfl) hl1 hL3).mono ?_
  rintro e w4 ⟨rfl, hg4⟩
  have hO4 : OpAt w4 w.heap.size kind B C K DD zs := OpAt.grown ⟨k0, k2, k3, k4, k5, k7⟩ hg4 hgb
  have s2 := hg2.size
  have hb1'' := hb1'.grown hg4 (fun e => by have := hgl g1 e; omega)
  have hb2'' := hb2.grown hg4 (fun e => by have := hgl g2 e; omega)
  have G4 : w.grownBy w4 none := gb_newer (gb_trans (gb_trans G1 hg2) hg3) hg4 (fun j hj => by have := hold j hj; omega)
  have s1 := G1.size
  clear k0 k2 k3 k4 k5 k7 hg2 hg3 hg4 hL hL2 hL3 hb1 hb1' hb2
  obtain ⟨k0, k2, k3, k4, k5, k7⟩ := hO4
  go_wp2_with (first | (refine wpList_bytes_of _ rfl _ 9 32 rfl 5 Tryz.underlying9 Tryz.underlying32 Tryz.underlying5 zs rfl hl2 ?_; intro b5 cap5 w5 hc5 hc5m hat5 hg5))
  refine (rseal_ok K uu DD B zs zs.length _ cap5 _ hB1 hB2 HU (hid rfl) hl (hid (by intro h; cases h)) hat5).mono ?_
  rintro e w6 ⟨a6, c6, rfl, hat6, hg6⟩
  rw [← HS.out] at hat6
  have K46 := gb_trans hg5 hg6
  have G6 := gb_trans G4 K46
  have f1 := hb1''.grown K46 (by simp)
  have f2 := hb2''.grown K46 (by simp)
  have r1 := run_string_of (P := Tryz.prog) w6 32 9 5 Tryz.underlying32 Tryz.underlying5 Tryz.underlying9 (some ⟨g1, 0, none⟩) (zs.length + 16) S f1.at
  have r2 := run_string_of (P := Tryz.prog) w6 32 9 5 Tryz.underlying32 Tryz.underlying5 Tryz.underlying9 (some ⟨g2, 0, none⟩) (zs.length + 16) S f2.at
  have r3 := run_string_of (P := Tryz.prog) w6 32 9 5 Tryz.underlying32 Tryz.underlying5 Tryz.underlying9 a6 c6 S hat6
  rw [HSl.out] at r1 r2 r3
  have CC := byte_two d (.slice (some ⟨g1, 0, none⟩) (zs.length + 16) (zs.length + 16)) (.slice (some ⟨g2, 0, none⟩) (zs.length + 16) (zs.length + 16)) (some ⟨g1, 0, zs.length + 16⟩) (some ⟨g2, 0, zs.length + 16⟩) S S w w6 hI G6 (f1.out HSl) (f2.out HSl) (by rw [HSl.out]; omega) (by rw [HSl.out]; omega) (fun q hq => by injection hq with hq; subst hq; show w.heap.size ≤ g1; omega) (fun q hq => by injection hq with hq; subst hq; show w.heap.size ≤ g2; omega) (fun q1 q2 h1 h2 => by injection h1 with h1; injection h2 with h2; subst h1 h2; exact hne) hll
  clear k0 k2 k3 k4 k5 k7 hg5 hg6 K46 G4 hb1'' hb2'' hat5 hat6 f1 f2
  go_wp2_with fail
  refine CC.mono ?_
  rintro e w7 ⟨rfl, CD⟩
  clear r1 r2 r3
  go_wp2_with fail
  refine CD.mono ?_
  rintro e w8 ⟨rfl, R⟩
  go_wp2
  go_ret
  exact ⟨rfl, R⟩
end Go.Proofs.YtbanfbpfapjfcaaGreatDoor
