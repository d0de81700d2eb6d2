/-
  What holds between the steps of a script is kept by each step that makes a plain desk, changes its book or tells its state. Conditions: in each statement.
-/
import Derived.Test.YtbanfbpfapjfcaaGreatDoorGPairB
import Derived.Test.YtbanfbpfapjfcaaGreatDoorGScript
namespace Go.Proofs.YtbanfbpfapjfcaaGreatDoor
open Go.RowKit
set_option maxRecDepth 100000
variable {QP : Type} {qas : QP → Asrt} {qb : QP → Nat} {base wb : Nat}

set_option maxHeartbeats 1000000 in
theorem step_new (d : WD PD QP) (kind A B C : Int) (K DD : UInt64) (zs : List UInt8) (c1 c6 c8 c9 c10 c11 c12 c13 c14 c15 c16 c17 c18 c19 c20 c21 c22 c23 c24 c25 c26 c27 c28 c29 c30 c31 c32 c33 c34 c35 c36 c37 c38 c39 c40 : Value) (w : World) (hk : Hid (kind = 5)) (hA : c1 = .int .i64 A) (hl : zs.length ≤ 140737488351232)
    (hI : SepW (plainD qas qb) base wb d w) (hll : (d.ps.length + 1) * 112 ≤ 140737488355328) :
    Calls Tryz.prog 27 #[.pointer (some ⟨wb, 0, none⟩), .agg #[.int .i64 kind, c1, .int .i64 B, .int .i64 C, .int .u64 (K.toNat : Int), .int .u64 (DD.toNat : Int), c6, .string ⟨zs.toArray⟩, c8, c9, c10, c11, c12, c13, c14, c15, c16, c17, c18, c19, c20, c21, c22, c23, c24, c25, c26, c27, c28, c29, c30, c31, c32, c33, c34, c35, c36, c37, c38, c39, c40]] w fun e w' => e = .returned (.bool true) ∧ ((SepW (plainD qas qb) base wb d w' ∧ Below base w w') ∨ MadeP qas qb base wb d ⟨A, [], [], zs⟩ w w') := by
  have G := World.grownBy_alloc w (.cells #[.int .i64 kind, c1, .int .i64 B, .int .i64 C, .int .u64 (K.toNat : Int), .int .u64 (DD.toNat : Int), c6, .string ⟨zs.toArray⟩, c8, c9, c10, c11, c12, c13, c14, c15, c16, c17, c18, c19, c20, c21, c22, c23, c24, c25, c26, c27, c28, c29, c30, c31, c32, c33, c34, c35, c36, c37, c38, c39, c40] 82) none
  have hI1 := hI.grown G
  have CC := free_plain d kind A B C K DD zs c1 c6 c8 c9 c10 c11 c12 c13 c14 c15 c16 c17 c18 c19 c20 c21 c22 c23 c24 c25 c26 c27 c28 c29 c30 c31 c32 c33 c34 c35 c36 c37 c38 c39 c40 _ hA hk.out hl hI1 hll
  have C2 : Calls Tryz.prog 46 #[.pointer (some ⟨wb, 0, none⟩), .agg #[.int .i64 kind, c1, .int .i64 B, .int .i64 C, .int .u64 (K.toNat : Int), .int .u64 (DD.toNat : Int), c6, .string ⟨zs.toArray⟩, c8, c9, c10, c11, c12, c13, c14, c15, c16, c17, c18, c19, c20, c21, c22, c23, c24, c25, c26, c27, c28, c29, c30, c31, c32, c33, c34, c35, c36, c37, c38, c39, c40]] (w.alloc (.cells #[.int .i64 kind, c1, .int .i64 B, .int .i64 C, .int .u64 (K.toNat : Int), .int .u64 (DD.toNat : Int), c6, .string ⟨zs.toArray⟩, c8, c9, c10, c11, c12, c13, c14, c15, c16, c17, c18, c19, c20, c21, c22, c23, c24, c25, c26, c27, c28, c29, c30, c31, c32, c33, c34, c35, c36, c37, c38, c39, c40] 82)) fun e w' => e = .returned (.bool true) ∧ ((SepW (plainD qas qb) base wb d w' ∧ Below base w w') ∨ MadeP qas qb base wb d ⟨A, [], [], zs⟩ w w') :=
    CC.mono fun e w' ⟨h1, h2⟩ => ⟨h1, by
      have gb := below_gb G hI.room
      rcases h2 with ⟨a, b⟩ | ⟨a, b⟩
      · exact .inl ⟨a, gb.trans b⟩
      · exact .inr ⟨a, gb.trans b⟩⟩
  have hrow : (w.alloc (.cells #[.int .i64 kind, c1, .int .i64 B, .int .i64 C, .int .u64 (K.toNat : Int), .int .u64 (DD.toNat : Int), c6, .string ⟨zs.toArray⟩, c8, c9, c10, c11, c12, c13, c14, c15, c16, c17, c18, c19, c20, c21, c22, c23, c24, c25, c26, c27, c28, c29, c30, c31, c32, c33, c34, c35, c36, c37, c38, c39, c40] 82)).heap[w.heap.size]? = some (.cells #[.int .i64 kind, c1, .int .i64 B, .int .i64 C, .int .u64 (K.toNat : Int), .int .u64 (DD.toNat : Int), c6, .string ⟨zs.toArray⟩, c8, c9, c10, c11, c12, c13, c14, c15, c16, c17, c18, c19, c20, c21, c22, c23, c24, c25, c26, c27, c28, c29, c30, c31, c32, c33, c34, c35, c36, c37, c38, c39, c40] 82 (0, 0)) := heap_alloc_new w _
  clear hI hI1 G CC hA
  obtain rfl := hk.out
  clear hk
  go_enter Tryz.func27, Tryz.ntmps27
  go_wp2_with (refine wpList_load_row rfl 82 _ rfl w.heap.size rfl 82 _ (0, 0) _ hrow Tryz.underlying82 rfl Tryz.size82 ?_)
  refine C2.mono ?_
  rintro e w' ⟨rfl, R⟩
  clear C2 hrow
  go_wp2
  go_ret
  exact ⟨rfl, R⟩

/-- The key numbers are bounded by the steps. -/
def bookN (p : PD) (i : Nat) : Prop := BookOk (i + 1) p.M.book
theorem bookN_mono (p : PD) (i : Nat) (h : bookN p i) : bookN p (i + 1) := BookOk.mono h (by omega)
variable {QN : QP → Nat → Prop}
theorem LI.new (hQ : ∀ q i, QN q i → QN q (i + 1)) {w1 wr : World} {i : Nat} {d : WD PD QP} (h : LI (plainD qas qb) bookN QN w1 i wr d) (hi : i * 392 ≤ 140737488355328) {kind : Int} {cs : Array Value} (hk : kind = 5) (hgo : OpOk kind cs) :
    Calls Tryz.prog 27 #[.pointer (some ⟨w1.heap.size, 0, none⟩), .agg cs] wr fun e w' => e = .returned (.bool true) ∧ ∃ d', LI (plainD qas qb) bookN QN w1 (i + 1) w' d' := by
  obtain ⟨o, c15, c16, c17, c18, c19, c20, c21, c22, c23, c24, c25, c26, c27, c28, c29, c30, c31, c32, c33, c34, c35, c36, c37, c38, c39, c40, hok, hko, rfl⟩ := hgo
  have a := h.ps
  refine (step_new d o.kind o.A o.B o.C o.K o.D o.zs (.int .i64 o.A) (.int .i64 o.now) (.int .i64 o.ak) (.string ⟨o.an.toArray⟩) (.int .u64 (o.key.toNat : Int)) (.int .i64 o.life) (.int .i64 o.renew) (.int .i64 o.expire) (.int .i64 o.flags) c15 c16 c17 c18 c19 c20 c21 c22 c23 c24 c25 c26 c27 c28 c29 c30 c31 c32 c33 c34 c35 c36 c37 c38 c39 c40 wr (hid (hko.trans hk)) rfl hok.2.2.2.2.2.1 h.sep (by omega)).mono ?_
  rintro e w' ⟨rfl, ⟨s, b⟩ | ⟨⟨pv, p, s, hp⟩, b⟩⟩
  · exact ⟨rfl, d, LI.mono bookN_mono hQ ⟨s, h.below.trans b, h.eb, h.ei, h.es, h.ps, h.qs, h.dv, h.ed, h.pn, h.qn⟩⟩
  · refine ⟨rfl, _, s, h.below.trans b, by have := h.eb; show d.eb.length ≤ _; omega, by have := h.ei; show d.ei.length ≤ _; omega, by have := h.es; show d.es.length ≤ _; omega, ?_, by have := h.qs; show d.qs.length ≤ _; omega, h.dv, h.ed, fun q hq => ?_, fun q hq => hQ q i (h.qn q hq)⟩
    · show (d.ps ++ [p]).length ≤ _
      rw [List.length_append, List.length_singleton]
      omega
    · rcases List.mem_append.1 hq with hq | hq
      · exact bookN_mono q i (h.pn q hq)
      · rw [List.mem_singleton.1 hq]
        show BookOk _ p.M.book
        rw [hp]
        exact BookOk.nil _
theorem LI.admin (hQ : ∀ q i, QN q i → QN q (i + 1)) {w1 wr : World} {i : Nat} {d : WD PD QP} (h : LI (plainD qas qb) bookN QN w1 i wr d) (hi : i * 392 ≤ 140737488355328) {kind : Int} {cs : Array Value} (hk : kind = 6) (hgo : OpOk kind cs) :
    Calls Tryz.prog 27 #[.pointer (some ⟨w1.heap.size, 0, none⟩), .agg cs] wr fun e w' => e = .returned (.bool true) ∧ ∃ d', LI (plainD qas qb) bookN QN w1 (i + 1) w' d' := by
  obtain ⟨o, c15, c16, c17, c18, c19, c20, c21, c22, c23, c24, c25, c26, c27, c28, c29, c30, c31, c32, c33, c34, c35, c36, c37, c38, c39, c40, hok, hko, rfl⟩ := hgo
  have a := h.ps
  have hk6 : o.kind = 6 := hko.trans hk
  by_cases hps : d.ps = []
  · refine (step_none d o.kind _ wr (hid (.inl hk6)) rfl h.sep hps).mono ?_
    rintro e w' ⟨rfl, g⟩
    exact ⟨rfl, d, (h.grown g).mono bookN_mono hQ⟩
  · have hpos : 0 < d.ps.length := List.length_pos_iff.2 hps
    have hkl := pickZ_lt o.A hpos
    obtain ⟨k, hkk⟩ : ∃ k, pickZ o.A d.ps.length = k := ⟨_, rfl⟩
    rw [hkk] at hkl
    have hp : d.ps[k]? = some d.ps[k] := List.getElem?_eq_getElem hkl
    obtain ⟨p, hpe⟩ : ∃ p, d.ps[k] = p := ⟨_, rfl⟩
    rw [hpe] at hp
    have hbk : bookN p i := h.pn p (List.mem_of_getElem? hp)
    refine (step_wplain d o.kind o.A _ k p (fun w' => (∃ p', SepW (plainD qas qb) w1.heap.size w1.heap.size { d with ps := d.ps.set k p' } w' ∧ p'.M = { p.M with book := (admB p.M.book ⟨o.ak, o.an, o.key, o.life, o.renew, o.expire, o.flags⟩).1 }) ∧ Below w1.heap.size wr w') wr (hid (.inl hk6)) rfl rfl rfl hok.2.1.1 hok.2.1.2 (hid (by omega)) (hid hkk) hp h.sep (fun W g => ?_)).mono ?_
    · refine (plain_admin d (i + 1) k p ⟨o.ak, o.an, o.key, o.life, o.renew, o.expire, o.flags⟩ o.kind o.B o.C o.K o.D o.zs (.int .i64 o.A) (.int .i64 o.now) (.int .i64 o.ak) (.string ⟨o.an.toArray⟩) (.int .u64 (o.key.toNat : Int)) (.int .i64 o.life) (.int .i64 o.renew) (.int .i64 o.expire) (.int .i64 o.flags) c15 c16 c17 c18 c19 c20 c21 c22 c23 c24 c25 c26 c27 c28 c29 c30 c31 c32 c33 c34 c35 c36 c37 c38 c39 c40 W hp (by rw [hk6]; rfl) ?_ hbk (by omega) hok.2.2.2.2.2.2.2.2.2.2.2.1 hok.2.2.2.2.2.2.2.2.2.2.2.2 (by have := hok.2.2.2.2.2.2.2.1; show o.an.length ≤ _; omega) (h.sep.grown g)).mono ?_
      · refine ⟨?_, ?_, ?_, ?_, ?_, ?_, ?_⟩ <;> (rw [World.cell?_alloc_at (hn := rfl)]; rfl)
      · rintro e w' ⟨rfl, q1, q2, q3⟩
        exact ⟨rfl, q3, q1, (below_gb g h.sep.room).trans q2⟩
    · rintro e w' ⟨rfl, ⟨p', s, hM⟩, b⟩
      refine ⟨rfl, _, s, h.below.trans b, by have := h.eb; show d.eb.length ≤ _; omega, by have := h.ei; show d.ei.length ≤ _; omega, by have := h.es; show d.es.length ≤ _; omega, by show (d.ps.set k p').length ≤ _; rw [List.length_set]; omega, by have := h.qs; show d.qs.length ≤ _; omega, h.dv, h.ed, fun q hq => ?_, fun q hq => hQ q i (h.qn q hq)⟩
      rcases List.mem_or_eq_of_mem_set hq with hq | rfl
      · exact bookN_mono q i (h.pn q hq)
      · show BookOk _ q.M.book
        rw [hM]
        exact BookOk.admB hbk (by omega) _
theorem LI.state (hQ : ∀ q i, QN q i → QN q (i + 1)) {w1 wr : World} {i : Nat} {d : WD PD QP} (h : LI (plainD qas qb) bookN QN w1 i wr d) (hi : i * 392 ≤ 140737488355328) {kind : Int} {cs : Array Value} (hk : kind = 8) (hgo : OpOk kind cs) :
    Calls Tryz.prog 27 #[.pointer (some ⟨w1.heap.size, 0, none⟩), .agg cs] wr fun e w' => e = .returned (.bool true) ∧ ∃ d', LI (plainD qas qb) bookN QN w1 (i + 1) w' d' := by
  obtain ⟨o, c15, c16, c17, c18, c19, c20, c21, c22, c23, c24, c25, c26, c27, c28, c29, c30, c31, c32, c33, c34, c35, c36, c37, c38, c39, c40, hok, hko, rfl⟩ := hgo
  have a := h.ps
  have a2 := h.ei
  have a3 := h.es
  have hk8 : o.kind = 8 := hko.trans hk
  by_cases hps : d.ps = []
  · refine (step_none d o.kind _ wr (hid (.inr (.inr hk8))) rfl h.sep hps).mono ?_
    rintro e w' ⟨rfl, g⟩
    exact ⟨rfl, d, (h.grown g).mono bookN_mono hQ⟩
  · have hpos : 0 < d.ps.length := List.length_pos_iff.2 hps
    have hkl := pickZ_lt o.A hpos
    obtain ⟨k, hkk⟩ : ∃ k, pickZ o.A d.ps.length = k := ⟨_, rfl⟩
    rw [hkk] at hkl
    have hp : d.ps[k]? = some d.ps[k] := List.getElem?_eq_getElem hkl
    obtain ⟨p, hpe⟩ : ∃ p, d.ps[k] = p := ⟨_, rfl⟩
    rw [hpe] at hp
    refine (step_wplain d o.kind o.A _ k p (fun w' => More (plainD qas qb) w1.heap.size w1.heap.size 2 d wr w') wr (hid (.inr (.inr hk8))) rfl rfl rfl hok.2.1.1 hok.2.1.2 (hid (by omega)) (hid hkk) hp h.sep (fun W g => ?_)).mono ?_
    · refine (plain_state d k p o.kind o.B o.C o.K o.D o.zs (.int .i64 o.A) (.int .i64 o.now) (.int .i64 o.ak) (.string ⟨o.an.toArray⟩) (.int .u64 (o.key.toNat : Int)) (.int .i64 o.life) (.int .i64 o.renew) (.int .i64 o.expire) (.int .i64 o.flags) c15 c16 c17 c18 c19 c20 c21 c22 c23 c24 c25 c26 c27 c28 c29 c30 c31 c32 c33 c34 c35 c36 c37 c38 c39 c40 W hp (by rw [hk8]; rfl) (by rw [hk8]; rfl) (h.sep.grown g) (by omega) (by omega)).mono ?_
      rintro e w' ⟨rfl, q1, q2⟩
      exact ⟨rfl, q2, q1.before g h.sep.room⟩
    · rintro e w' ⟨rfl, m⟩
      exact ⟨rfl, h.more bookN_mono hQ m⟩
end Go.Proofs.YtbanfbpfapjfcaaGreatDoor
