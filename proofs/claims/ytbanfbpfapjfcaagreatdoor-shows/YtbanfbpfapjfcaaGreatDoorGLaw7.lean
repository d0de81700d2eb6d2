/-
  Contracts of World.free and World.step at every step that hashes, seals or opens. Conditions: what the world holds; the text has at most 2 to the 47th bytes less 4096.
-/
import Derived.Test.YtbanfbpfapjfcaaGreatDoorGLaw6
namespace Go.Proofs.YtbanfbpfapjfcaaGreatDoor
open Go.RowKit
set_option maxRecDepth 100000
variable {PP QP : Type} {D : Desks PP QP} {base wb : Nat}

theorem free_any (d : WD PP QP) (kind B C : Int) (K DD : UInt64) (zs : List UInt8) (c1 c6 c8 c9 c10 c11 c12 c13 c14 c15 c16 c17 c18 c19 c20 c21 c22 c23 c24 c25 c26 c27 c28 c29 c30 c31 c32 c33 c34 c35 c36 c37 c38 c39 c40 : Value) (w : World) (hk : kind = 1 ∨ kind = 2 ∨ kind = 3) (hl : zs.length ≤ 140737488351232)
    (hI : SepW D base wb d w) (hll : (d.eb.length + 2) * 112 ≤ 140737488355328) :
    Calls Tryz.prog 46 #[.pointer (some ⟨wb, 0, none⟩), .agg #[.int .i64 kind, c1, .int .i64 B, .int .i64 C, .int .u64 (K.toNat : Int), .int .u64 (DD.toNat : Int), c6, .string ⟨zs.toArray⟩, c8, c9, c10, c11, c12, c13, c14, c15, c16, c17, c18, c19, c20, c21, c22, c23, c24, c25, c26, c27, c28, c29, c30, c31, c32, c33, c34, c35, c36, c37, c38, c39, c40]] w fun e w' => e = .returned (.bool true) ∧ More D base wb 2 d w w' := by
  have HU : isU B = true → B = ((UInt64.ofNat B.toNat).toNat : Int) := by
    intro h
    have := isU_in h
    rw [Pure.ofNat_small _ (by omega), Int.toNat_of_nonneg (by omega)]
  rcases hk with rfl | rfl | rfl
  · refine (free_hash wb 1 B C K DD zs c1 c6 c8 c9 c10 c11 c12 c13 c14 c15 c16 c17 c18 c19 c20 c21 c22 c23 c24 c25 c26 c27 c28 c29 c30 c31 c32 c33 c34 c35 c36 c37 c38 c39 c40 w rfl hl).mono ?_
    rintro e w' ⟨rfl, hg⟩
    exact ⟨rfl, More.none 2 hI hg⟩
  · by_cases hU : isU B = true
    · by_cases hn : zs.length ≤ 200
      · exact free_seal_ok d 2 B C K DD zs c1 c6 c8 c9 c10 c11 c12 c13 c14 c15 c16 c17 c18 c19 c20 c21 c22 c23 c24 c25 c26 c27 c28 c29 c30 c31 c32 c33 c34 c35 c36 c37 c38 c39 c40 w rfl rfl hn hU hI hll
      · exact free_seal_bad d 2 B C K DD zs c1 c6 c8 c9 c10 c11 c12 c13 c14 c15 c16 c17 c18 c19 c20 c21 c22 c23 c24 c25 c26 c27 c28 c29 c30 c31 c32 c33 c34 c35 c36 c37 c38 c39 c40 w rfl rfl hl (.inr ⟨hU, by omega⟩) hI hll
    · exact free_seal_bad d 2 B C K DD zs c1 c6 c8 c9 c10 c11 c12 c13 c14 c15 c16 c17 c18 c19 c20 c21 c22 c23 c24 c25 c26 c27 c28 c29 c30 c31 c32 c33 c34 c35 c36 c37 c38 c39 c40 w rfl rfl hl (.inl (by simpa using hU)) hI hll
  · by_cases hU : isU B = true
    · by_cases hn : zs.length < 16 ∨ 216 < zs.length
      · exact free_unseal_bad d 3 B C 3 K DD 0 zs c1 c6 c8 c9 c10 c11 c12 c13 c14 c15 c16 c17 c18 c19 c20 c21 c22 c23 c24 c25 c26 c27 c28 c29 c30 c31 c32 c33 c34 c35 c36 c37 c38 c39 c40 w rfl rfl rfl hl (.inr (.inl ⟨hU, rfl, hn⟩)) rfl hI hll
      · cases ho : Pure.opens K (UInt64.ofNat B.toNat) zs
        · exact free_unseal_bad d 3 B C 3 K DD (UInt64.ofNat B.toNat) zs c1 c6 c8 c9 c10 c11 c12 c13 c14 c15 c16 c17 c18 c19 c20 c21 c22 c23 c24 c25 c26 c27 c28 c29 c30 c31 c32 c33 c34 c35 c36 c37 c38 c39 c40 w rfl rfl rfl hl (.inr (.inr ⟨hU, rfl, HU hU, by omega, by omega, ho⟩)) rfl hI hll
        · exact free_unseal_ok d 3 B C K DD (UInt64.ofNat B.toNat) zs (zs.length - 16) c1 c6 c8 c9 c10 c11 c12 c13 c14 c15 c16 c17 c18 c19 c20 c21 c22 c23 c24 c25 c26 c27 c28 c29 c30 c31 c32 c33 c34 c35 c36 c37 c38 c39 c40 w rfl rfl rfl hU (HU hU) (hid (by omega)) (by omega) ho hI hll
    · exact free_unseal_bad d 3 B C 1 K DD 0 zs c1 c6 c8 c9 c10 c11 c12 c13 c14 c15 c16 c17 c18 c19 c20 c21 c22 c23 c24 c25 c26 c27 c28 c29 c30 c31 c32 c33 c34 c35 c36 c37 c38 c39 c40 w rfl rfl rfl hl (.inl ⟨by simpa using hU, rfl⟩) rfl hI hll

theorem Tryz.size82 : (Tryz.prog.info? 82).map (·.size) = some 41 := by kernel_rfl

/-- A struct is read, wherever its cells lie. -/
theorem wpList_load_at {P : Program} {ops : Array Oper} {rest : List Oper} {o : Oper} {a : Act} {w : World} {Q : Exit → Act → World → Prop} (hgd : o.guard = none) (ty : TypeId) (x : Operand) (ho : o.op = .load ty x)
    (ad : Addr) (hx : a.eval x = .pointer (some ad)) (cs : Array Value) (d : TypeDesc) (hc : ∀ j v, cs.toList[j]? = some v → w.cell? (ad.add j) = some v)
    (hu : P.underlying ty = some d) (hd : (match d with | .struct _ | .array _ _ => true | _ => false) = true) (hi : (P.info? ty).map (·.size) = some cs.size)
    (h : wpList P ops Q rest (a.put o.dst (.agg cs)) w) : wpList P ops Q (o :: rest) a w := by
  refine wpList_plain hgd fun K hK => ?_
  have hl : (loadCells ad cs.toList.length).run P w = .ok cs.toList.toArray w := run_loadCells_list (P := P) w ad cs.toList hc
  have hrun : (loadVar ty ad).run P w = .ok (.agg cs) w := by
    cases hq : P.info? ty with
    | none => simp [hq] at hi
    | some i =>
      have hs : i.size = cs.size := by simpa [hq] using hi
      have hagg : (isAgg ty).run P w = .ok true w := by
        unfold isAgg
        rw [Sem.run_bind, run_underlying hu w]
        cases d <;> simp_all
      simp only [Array.length_toList, Array.toArray_toList] at hl
      simp [loadVar, Sem.run_bind, hagg, sizeOf, typeInfo, hq, hs, hl]
  unfold Oper.wp execOp
  simp only [ho, hx, Instr.loadAt, Instr.sureAddr, Sem.run_bind, Sem.run_pure, Result.andThen_ok, hrun]
  exact hK _ _ h

set_option maxHeartbeats 1000000 in
theorem step_any (d : WD PP QP) (kind B C : Int) (K DD : UInt64) (zs : List UInt8) (c1 c6 c8 c9 c10 c11 c12 c13 c14 c15 c16 c17 c18 c19 c20 c21 c22 c23 c24 c25 c26 c27 c28 c29 c30 c31 c32 c33 c34 c35 c36 c37 c38 c39 c40 : Value) (w : World) (hk : Hid (kind = 1 ∨ kind = 2 ∨ kind = 3)) (hl : zs.length ≤ 140737488351232)
    (hI : SepW D base wb d w) (hll : (d.eb.length + 2) * 112 ≤ 140737488355328) :
    Calls Tryz.prog 27 #[.pointer (some ⟨wb, 0, none⟩), .agg #[.int .i64 kind, c1, .int .i64 B, .int .i64 C, .int .u64 (K.toNat : Int), .int .u64 (DD.toNat : Int), c6, .string ⟨zs.toArray⟩, c8, c9, c10, c11, c12, c13, c14, c15, c16, c17, c18, c19, c20, c21, c22, c23, c24, c25, c26, c27, c28, c29, c30, c31, c32, c33, c34, c35, c36, c37, c38, c39, c40]] w fun e w' => e = .returned (.bool true) ∧ More D base wb 2 d w w' := by
  have G := World.grownBy_alloc w (.cells #[.int .i64 kind, c1, .int .i64 B, .int .i64 C, .int .u64 (K.toNat : Int), .int .u64 (DD.toNat : Int), c6, .string ⟨zs.toArray⟩, c8, c9, c10, c11, c12, c13, c14, c15, c16, c17, c18, c19, c20, c21, c22, c23, c24, c25, c26, c27, c28, c29, c30, c31, c32, c33, c34, c35, c36, c37, c38, c39, c40] 82) none
  have hI1 := hI.grown G
  have CC := free_any d kind B C K DD zs c1 c6 c8 c9 c10 c11 c12 c13 c14 c15 c16 c17 c18 c19 c20 c21 c22 c23 c24 c25 c26 c27 c28 c29 c30 c31 c32 c33 c34 c35 c36 c37 c38 c39 c40 _ hk.out hl hI1 hll
  have C2 : Calls Tryz.prog 46 #[.pointer (some ⟨wb, 0, none⟩), .agg #[.int .i64 kind, c1, .int .i64 B, .int .i64 C, .int .u64 (K.toNat : Int), .int .u64 (DD.toNat : Int), c6, .string ⟨zs.toArray⟩, c8, c9, c10, c11, c12, c13, c14, c15, c16, c17, c18, c19, c20, c21, c22, c23, c24, c25, c26, c27, c28, c29, c30, c31, c32, c33, c34, c35, c36, c37, c38, c39, c40]] (w.alloc (.cells #[.int .i64 kind, c1, .int .i64 B, .int .i64 C, .int .u64 (K.toNat : Int), .int .u64 (DD.toNat : Int), c6, .string ⟨zs.toArray⟩, c8, c9, c10, c11, c12, c13, c14, c15, c16, c17, c18, c19, c20, c21, c22, c23, c24, c25, c26, c27, c28, c29, c30, c31, c32, c33, c34, c35, c36, c37, c38, c39, c40] 82)) fun e w' => e = .returned (.bool true) ∧ More D base wb 2 d w w' :=
    CC.mono fun e w' ⟨h1, h2⟩ => ⟨h1, h2.before G hI.room⟩
  have hrow : (w.alloc (.cells #[.int .i64 kind, c1, .int .i64 B, .int .i64 C, .int .u64 (K.toNat : Int), .int .u64 (DD.toNat : Int), c6, .string ⟨zs.toArray⟩, c8, c9, c10, c11, c12, c13, c14, c15, c16, c17, c18, c19, c20, c21, c22, c23, c24, c25, c26, c27, c28, c29, c30, c31, c32, c33, c34, c35, c36, c37, c38, c39, c40] 82)).heap[w.heap.size]? = some (.cells #[.int .i64 kind, c1, .int .i64 B, .int .i64 C, .int .u64 (K.toNat : Int), .int .u64 (DD.toNat : Int), c6, .string ⟨zs.toArray⟩, c8, c9, c10, c11, c12, c13, c14, c15, c16, c17, c18, c19, c20, c21, c22, c23, c24, c25, c26, c27, c28, c29, c30, c31, c32, c33, c34, c35, c36, c37, c38, c39, c40] 82 (0, 0)) := heap_alloc_new w _
  clear hI hI1 G CC
  rcases hk.out with rfl | rfl | rfl
  all_goals
    clear hk
    go_enter Tryz.func27, Tryz.ntmps27
    go_wp2_with (refine wpList_load_row rfl 82 _ rfl w.heap.size rfl 82 _ (0, 0) _ hrow Tryz.underlying82 rfl Tryz.size82 ?_)
    refine C2.mono ?_
    rintro e w' ⟨rfl, R⟩
    clear C2 hrow
    go_wp2
    go_ret
    exact ⟨rfl, R⟩

end Go.Proofs.YtbanfbpfapjfcaaGreatDoor
