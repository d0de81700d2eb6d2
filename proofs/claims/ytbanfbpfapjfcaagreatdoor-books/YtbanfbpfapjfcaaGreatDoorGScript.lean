/-
  What a script that came in is: each step's cells, with the kinds of its fields. Conditions: the sizes that the row's own bound gives.
  What holds between the steps of a script; each step that hashes, seals, opens or shows keeps it, and so does a look at the lists. Conditions: in each statement.
-/
import Derived.Test.YtbanfbpfapjfcaaGreatDoorGLaw10
import Derived.WalkKit
import Derived.ProofKit
import Derived.OpenShut
import Derived.ChangeOld
import Derived.Below
import Derived.SizedLaws
import Derived.Deep.DeepHandedRow
import Derived.Deep.Slices
import Derived.Lib.LaidTab
import Derived.LaidSub
import Derived.MakeChecks
import Derived.Test.YtbanfbpfapjfcaaGreatDoorGLooks
namespace Go.Proofs.YtbanfbpfapjfcaaGreatDoor
/-- A number of 64 bits with a sign. -/
abbrev I64 (x : Int) : Prop := -9223372036854775808 ≤ x ∧ x ≤ 9223372036854775807
/-- The fields of a step that are numbers, texts and what is done to a book. -/
structure OpF where
  kind : Int
  A : Int
  B : Int
  C : Int
  K : UInt64
  D : UInt64
  now : Int
  zs : List UInt8
  ak : Int
  an : List UInt8
  key : UInt64
  life : Int
  renew : Int
  expire : Int
  flags : Int
def OpF.ok (o : OpF) : Prop := I64 o.kind ∧ I64 o.A ∧ I64 o.B ∧ I64 o.C ∧ I64 o.now ∧ o.zs.length ≤ 140737488351232 ∧ I64 o.ak ∧ o.an.length ≤ 140737488351232 ∧ I64 o.life ∧ I64 o.renew ∧ I64 o.expire ∧ I64 o.flags
abbrev OpF.cells (o : OpF) (c15 c16 c17 c18 c19 c20 c21 c22 c23 c24 c25 c26 c27 c28 c29 c30 c31 c32 c33 c34 c35 c36 c37 c38 c39 c40 : Value) : Array Value := #[.int .i64 o.kind, .int .i64 o.A, .int .i64 o.B, .int .i64 o.C, .int .u64 (o.K.toNat : Int), .int .u64 (o.D.toNat : Int), .int .i64 o.now, .string ⟨o.zs.toArray⟩, .int .i64 o.ak, .string ⟨o.an.toArray⟩, .int .u64 (o.key.toNat : Int), .int .i64 o.life, .int .i64 o.renew, .int .i64 o.expire, .int .i64 o.flags, c15, c16, c17, c18, c19, c20, c21, c22, c23, c24, c25, c26, c27, c28, c29, c30, c31, c32, c33, c34, c35, c36, c37, c38, c39, c40]
/-- A step's cells. -/
def OpOk (kind : Int) (cs : Array Value) : Prop := ∃ (o : OpF) (c15 c16 c17 c18 c19 c20 c21 c22 c23 c24 c25 c26 c27 c28 c29 c30 c31 c32 c33 c34 c35 c36 c37 c38 c39 c40 : Value), o.ok ∧ o.kind = kind ∧ cs = o.cells c15 c16 c17 c18 c19 c20 c21 c22 c23 c24 c25 c26 c27 c28 c29 c30 c31 c32 c33 c34 c35 c36 c37 c38 c39 c40
theorem i64_0 : I64 0 := by decide
theorem i64_2 : I64 2 := by decide
theorem i64_10 : I64 10 := by decide
/-- The script's first step is one. -/
theorem first_ok (k0 : Int) (hk : I64 k0) (zs : List UInt8) (h : zs.length = 500) : OpOk k0 (opFirst k0 zs) :=
  ⟨⟨k0, 10, 2, 0, 0, 0, 0, zs, 0, [], 0, 0, 0, 0, 0⟩, .int .i64 0, .string ⟨#[]⟩, .string ⟨#[]⟩, .int .i64 0, .int .i64 0, .int .i64 0, .int .i64 0, .int .i64 0, .int .i64 0, .int .i64 0, .int .i64 0, .int .i64 0, .int .u64 0, .string ⟨#[]⟩, .int .i64 0, .int .i64 0, .int .i64 0, .int .i64 0, .int .i64 0, .int .i64 0, .string ⟨#[]⟩, .int .i64 0, .int .i64 0, .int .i64 0, .int .i64 0, .slice none 0 0, ⟨hk, i64_10, i64_2, i64_0, i64_0, by show zs.length ≤ _; omega, i64_0, by simp, i64_0, i64_0, i64_0, i64_0⟩, rfl, rfl⟩
end Go.Proofs.YtbanfbpfapjfcaaGreatDoor
namespace Go.Proofs.YtbanfbpfapjfcaaGreatDoor.scr
open Go.ChangeShapes Go.WideShapes Go.ChangeAt Go.RowKit
set_option linter.unusedVariables false
set_option maxRecDepth 100000

theorem own : ownKnob Tryz.prog.godebug = none := by kernel_rfl
theorem laidOut : laidOutB Tryz.prog = true := by kernel_rfl
theorem cellsOp : Tryz.prog.cellsOf 82 = 41 := by kernel_rfl
theorem bytesOp : Tryz.prog.bytesOf 82 = 392 := by kernel_rfl
theorem cellsInt : Tryz.prog.cellsOf 3 = 1 := by kernel_rfl
theorem cellsI64 : Tryz.prog.cellsOf 2 = 1 := by kernel_rfl
theorem cellsU64 : Tryz.prog.cellsOf 40 = 1 := by kernel_rfl
theorem cellsStr : Tryz.prog.cellsOf 9 = 1 := by kernel_rfl
theorem cellsAdmin : Tryz.prog.cellsOf 61 = 7 := by kernel_rfl

theorem u64_of {x : Int} (h : (Lit.int .u64 x).wf = true) : x = ((UInt64.ofNat x.toNat).toNat : Int) := by
  have hb := bounds_u64 h
  rw [Pure.ofNat_small _ (by omega), Int.toNat_of_nonneg hb.1]
theorem i64_of {x : Int} (h : (Lit.int .i64 x).wf = true) : I64 x := by
  have hb := bounds_i64 h
  exact ⟨by omega, by omega⟩

theorem one_more {l : List Value} {n : Nat} (h : l.length = n + 1) : ∃ a r, l = a :: r ∧ r.length = n := by
  cases l with
  | nil => simp at h
  | cons a r => exact ⟨a, r, rfl, by simpa using h⟩
theorem list41 {cs : List Value} (h : cs.length = 41) : ∃ c0 c1 c2 c3 c4 c5 c6 c7 c8 c9 c10 c11 c12 c13 c14 c15 c16 c17 c18 c19 c20 c21 c22 c23 c24 c25 c26 c27 c28 c29 c30 c31 c32 c33 c34 c35 c36 c37 c38 c39 c40 : Value,
    cs = [c0, c1, c2, c3, c4, c5, c6, c7, c8, c9, c10, c11, c12, c13, c14, c15, c16, c17, c18, c19, c20, c21, c22, c23, c24, c25, c26, c27, c28, c29, c30, c31, c32, c33, c34, c35, c36, c37, c38, c39, c40] := by
  obtain ⟨c0, r0, rfl, h0⟩ := one_more h
  obtain ⟨c1, r1, rfl, h1⟩ := one_more h0
  obtain ⟨c2, r2, rfl, h2⟩ := one_more h1
  obtain ⟨c3, r3, rfl, h3⟩ := one_more h2
  obtain ⟨c4, r4, rfl, h4⟩ := one_more h3
  obtain ⟨c5, r5, rfl, h5⟩ := one_more h4
  obtain ⟨c6, r6, rfl, h6⟩ := one_more h5
  obtain ⟨c7, r7, rfl, h7⟩ := one_more h6
  obtain ⟨c8, r8, rfl, h8⟩ := one_more h7
  obtain ⟨c9, r9, rfl, h9⟩ := one_more h8
  obtain ⟨c10, r10, rfl, h10⟩ := one_more h9
  obtain ⟨c11, r11, rfl, h11⟩ := one_more h10
  obtain ⟨c12, r12, rfl, h12⟩ := one_more h11
  obtain ⟨c13, r13, rfl, h13⟩ := one_more h12
  obtain ⟨c14, r14, rfl, h14⟩ := one_more h13
  obtain ⟨c15, r15, rfl, h15⟩ := one_more h14
  obtain ⟨c16, r16, rfl, h16⟩ := one_more h15
  obtain ⟨c17, r17, rfl, h17⟩ := one_more h16
  obtain ⟨c18, r18, rfl, h18⟩ := one_more h17
  obtain ⟨c19, r19, rfl, h19⟩ := one_more h18
  obtain ⟨c20, r20, rfl, h20⟩ := one_more h19
  obtain ⟨c21, r21, rfl, h21⟩ := one_more h20
  obtain ⟨c22, r22, rfl, h22⟩ := one_more h21
  obtain ⟨c23, r23, rfl, h23⟩ := one_more h22
  obtain ⟨c24, r24, rfl, h24⟩ := one_more h23
  obtain ⟨c25, r25, rfl, h25⟩ := one_more h24
  obtain ⟨c26, r26, rfl, h26⟩ := one_more h25
  obtain ⟨c27, r27, rfl, h27⟩ := one_more h26
  obtain ⟨c28, r28, rfl, h28⟩ := one_more h27
  obtain ⟨c29, r29, rfl, h29⟩ := one_more h28
  obtain ⟨c30, r30, rfl, h30⟩ := one_more h29
  obtain ⟨c31, r31, rfl, h31⟩ := one_more h30
  obtain ⟨c32, r32, rfl, h32⟩ := one_more h31
  obtain ⟨c33, r33, rfl, h33⟩ := one_more h32
  obtain ⟨c34, r34, rfl, h34⟩ := one_more h33
  obtain ⟨c35, r35, rfl, h35⟩ := one_more h34
  obtain ⟨c36, r36, rfl, h36⟩ := one_more h35
  obtain ⟨c37, r37, rfl, h37⟩ := one_more h36
  obtain ⟨c38, r38, rfl, h38⟩ := one_more h37
  obtain ⟨c39, r39, rfl, h39⟩ := one_more h38
  obtain ⟨c40, r40, rfl, h40⟩ := one_more h39
  obtain rfl := List.eq_nil_of_length_eq_zero h40
  exact ⟨_, _, _, _, _, _, _, _, _, _, _, _, _, _, _, _, _, _, _, _, _, _, _, _, _, _, _, _, _, _, _, _, _, _, _, _, _, _, _, _, _, rfl⟩

/-- A step that reads as data lies as its cells say. -/
theorem step_of {H : Type} {enc : TypeId × Value → H} {W : World} {n : Nat} {cs : List Value} {x : DataW H × List MemPlace} (hlen : cs.length = 41)
    (h : DataW.trod enc Tryz.prog W 0 (fun _ => true) true n 82 cs = some x) (hw : ∀ m ∈ x.1.weights Tryz.prog 82, m ≤ 140737488351232) :
    ∃ kind, OpOk kind cs.toArray := by
  obtain ⟨xs, m, rfl, rfl, _, hxl, hf⟩ := DataW.trod_struct Tryz.underlying82 h
  obtain ⟨c0, c1, c2, c3, c4, c5, c6, c7, c8, c9, c10, c11, c12, c13, c14, c15, c16, c17, c18, c19, c20, c21, c22, c23, c24, c25, c26, c27, c28, c29, c30, c31, c32, c33, c34, c35, c36, c37, c38, c39, c40, rfl⟩ := list41 hlen
  have f0 : DataW.trod enc Tryz.prog W 0 (fun _ => true) true m 3 (([c0, c1, c2, c3, c4, c5, c6, c7, c8, c9, c10, c11, c12, c13, c14, c15, c16, c17, c18, c19, c20, c21, c22, c23, c24, c25, c26, c27, c28, c29, c30, c31, c32, c33, c34, c35, c36, c37, c38, c39, c40].drop 0).take (Tryz.prog.cellsOf 3)) = xs[0]? := hf 0 _ rfl
  have f1 : DataW.trod enc Tryz.prog W 0 (fun _ => true) true m 3 (([c0, c1, c2, c3, c4, c5, c6, c7, c8, c9, c10, c11, c12, c13, c14, c15, c16, c17, c18, c19, c20, c21, c22, c23, c24, c25, c26, c27, c28, c29, c30, c31, c32, c33, c34, c35, c36, c37, c38, c39, c40].drop 1).take (Tryz.prog.cellsOf 3)) = xs[1]? := hf 1 _ rfl
  have f2 : DataW.trod enc Tryz.prog W 0 (fun _ => true) true m 3 (([c0, c1, c2, c3, c4, c5, c6, c7, c8, c9, c10, c11, c12, c13, c14, c15, c16, c17, c18, c19, c20, c21, c22, c23, c24, c25, c26, c27, c28, c29, c30, c31, c32, c33, c34, c35, c36, c37, c38, c39, c40].drop 2).take (Tryz.prog.cellsOf 3)) = xs[2]? := hf 2 _ rfl
  have f3 : DataW.trod enc Tryz.prog W 0 (fun _ => true) true m 3 (([c0, c1, c2, c3, c4, c5, c6, c7, c8, c9, c10, c11, c12, c13, c14, c15, c16, c17, c18, c19, c20, c21, c22, c23, c24, c25, c26, c27, c28, c29, c30, c31, c32, c33, c34, c35, c36, c37, c38, c39, c40].drop 3).take (Tryz.prog.cellsOf 3)) = xs[3]? := hf 3 _ rfl
  have f4 : DataW.trod enc Tryz.prog W 0 (fun _ => true) true m 40 (([c0, c1, c2, c3, c4, c5, c6, c7, c8, c9, c10, c11, c12, c13, c14, c15, c16, c17, c18, c19, c20, c21, c22, c23, c24, c25, c26, c27, c28, c29, c30, c31, c32, c33, c34, c35, c36, c37, c38, c39, c40].drop 4).take (Tryz.prog.cellsOf 40)) = xs[4]? := hf 4 _ rfl
  have f5 : DataW.trod enc Tryz.prog W 0 (fun _ => true) true m 40 (([c0, c1, c2, c3, c4, c5, c6, c7, c8, c9, c10, c11, c12, c13, c14, c15, c16, c17, c18, c19, c20, c21, c22, c23, c24, c25, c26, c27, c28, c29, c30, c31, c32, c33, c34, c35, c36, c37, c38, c39, c40].drop 5).take (Tryz.prog.cellsOf 40)) = xs[5]? := hf 5 _ rfl
  have f6 : DataW.trod enc Tryz.prog W 0 (fun _ => true) true m 2 (([c0, c1, c2, c3, c4, c5, c6, c7, c8, c9, c10, c11, c12, c13, c14, c15, c16, c17, c18, c19, c20, c21, c22, c23, c24, c25, c26, c27, c28, c29, c30, c31, c32, c33, c34, c35, c36, c37, c38, c39, c40].drop 6).take (Tryz.prog.cellsOf 2)) = xs[6]? := hf 6 _ rfl
  have f7 : DataW.trod enc Tryz.prog W 0 (fun _ => true) true m 9 (([c0, c1, c2, c3, c4, c5, c6, c7, c8, c9, c10, c11, c12, c13, c14, c15, c16, c17, c18, c19, c20, c21, c22, c23, c24, c25, c26, c27, c28, c29, c30, c31, c32, c33, c34, c35, c36, c37, c38, c39, c40].drop 7).take (Tryz.prog.cellsOf 9)) = xs[7]? := hf 7 _ rfl
  have f8 : DataW.trod enc Tryz.prog W 0 (fun _ => true) true m 61 (([c0, c1, c2, c3, c4, c5, c6, c7, c8, c9, c10, c11, c12, c13, c14, c15, c16, c17, c18, c19, c20, c21, c22, c23, c24, c25, c26, c27, c28, c29, c30, c31, c32, c33, c34, c35, c36, c37, c38, c39, c40].drop 8).take (Tryz.prog.cellsOf 61)) = xs[8]? := hf 8 _ rfl
  have hx : ∀ i, i < 11 → ∃ y, xs[i]? = some y := fun i hi => ⟨_, List.getElem?_eq_getElem (by rw [hxl]; exact hi)⟩
  obtain ⟨y0, e0⟩ := hx 0 (by decide)
  obtain ⟨y1, e1⟩ := hx 1 (by decide)
  obtain ⟨y2, e2⟩ := hx 2 (by decide)
  obtain ⟨y3, e3⟩ := hx 3 (by decide)
  obtain ⟨y4, e4⟩ := hx 4 (by decide)
  obtain ⟨y5, e5⟩ := hx 5 (by decide)
  obtain ⟨y6, e6⟩ := hx 6 (by decide)
  obtain ⟨y7, e7⟩ := hx 7 (by decide)
  obtain ⟨y8, e8⟩ := hx 8 (by decide)
  rw [e0, cellsInt] at f0
  rw [e1, cellsInt] at f1
  rw [e2, cellsInt] at f2
  rw [e3, cellsInt] at f3
  rw [e4, cellsU64] at f4
  rw [e5, cellsU64] at f5
  rw [e6, cellsI64] at f6
  rw [e7, cellsStr] at f7
  rw [e8, cellsAdmin] at f8
  obtain ⟨v0, g0, _, w0⟩ := DataW.trod_int Tryz.underlying3 f0
  obtain ⟨v1, g1, _, w1⟩ := DataW.trod_int Tryz.underlying3 f1
  obtain ⟨v2, g2, _, w2⟩ := DataW.trod_int Tryz.underlying3 f2
  obtain ⟨v3, g3, _, w3⟩ := DataW.trod_int Tryz.underlying3 f3
  obtain ⟨v4, g4, _, w4⟩ := DataW.trod_int Tryz.underlying40 f4
  obtain ⟨v5, g5, _, w5⟩ := DataW.trod_int Tryz.underlying40 f5
  obtain ⟨v6, g6, _, w6⟩ := DataW.trod_int Tryz.underlying2 f6
  obtain ⟨v7, g7, r7, _⟩ := DataW.trod_string Tryz.underlying9 f7
  obtain ⟨ys, m8, hm8, hy8, _, hyl, hg⟩ := DataW.trod_struct Tryz.underlying61 f8
  have a0 : DataW.trod enc Tryz.prog W 0 (fun _ => true) true m8 3 (([c8, c9, c10, c11, c12, c13, c14].drop 0).take (Tryz.prog.cellsOf 3)) = ys[0]? := hg 0 _ rfl
  have a1 : DataW.trod enc Tryz.prog W 0 (fun _ => true) true m8 9 (([c8, c9, c10, c11, c12, c13, c14].drop 1).take (Tryz.prog.cellsOf 9)) = ys[1]? := hg 1 _ rfl
  have a2 : DataW.trod enc Tryz.prog W 0 (fun _ => true) true m8 40 (([c8, c9, c10, c11, c12, c13, c14].drop 2).take (Tryz.prog.cellsOf 40)) = ys[2]? := hg 2 _ rfl
  have a3 : DataW.trod enc Tryz.prog W 0 (fun _ => true) true m8 2 (([c8, c9, c10, c11, c12, c13, c14].drop 3).take (Tryz.prog.cellsOf 2)) = ys[3]? := hg 3 _ rfl
  have a4 : DataW.trod enc Tryz.prog W 0 (fun _ => true) true m8 2 (([c8, c9, c10, c11, c12, c13, c14].drop 4).take (Tryz.prog.cellsOf 2)) = ys[4]? := hg 4 _ rfl
  have a5 : DataW.trod enc Tryz.prog W 0 (fun _ => true) true m8 2 (([c8, c9, c10, c11, c12, c13, c14].drop 5).take (Tryz.prog.cellsOf 2)) = ys[5]? := hg 5 _ rfl
  have a6 : DataW.trod enc Tryz.prog W 0 (fun _ => true) true m8 3 (([c8, c9, c10, c11, c12, c13, c14].drop 6).take (Tryz.prog.cellsOf 3)) = ys[6]? := hg 6 _ rfl
  have hy : ∀ i, i < 7 → ∃ y, ys[i]? = some y := fun i hi => ⟨_, List.getElem?_eq_getElem (by rw [hyl]; exact hi)⟩
  obtain ⟨z0, b0⟩ := hy 0 (by decide)
  obtain ⟨z1, b1⟩ := hy 1 (by decide)
  obtain ⟨z2, b2⟩ := hy 2 (by decide)
  obtain ⟨z3, b3⟩ := hy 3 (by decide)
  obtain ⟨z4, b4⟩ := hy 4 (by decide)
  obtain ⟨z5, b5⟩ := hy 5 (by decide)
  obtain ⟨z6, b6⟩ := hy 6 (by decide)
  rw [b0, cellsInt] at a0
  rw [b1, cellsStr] at a1
  rw [b2, cellsU64] at a2
  rw [b3, cellsI64] at a3
  rw [b4, cellsI64] at a4
  rw [b5, cellsI64] at a5
  rw [b6, cellsInt] at a6
  obtain ⟨p0, s0, _, q0⟩ := DataW.trod_int Tryz.underlying3 a0
  obtain ⟨p1, s1, t1, _⟩ := DataW.trod_string Tryz.underlying9 a1
  obtain ⟨p2, s2, _, q2⟩ := DataW.trod_int Tryz.underlying40 a2
  obtain ⟨p3, s3, _, q3⟩ := DataW.trod_int Tryz.underlying2 a3
  obtain ⟨p4, s4, _, q4⟩ := DataW.trod_int Tryz.underlying2 a4
  obtain ⟨p5, s5, _, q5⟩ := DataW.trod_int Tryz.underlying2 a5
  obtain ⟨p6, s6, _, q6⟩ := DataW.trod_int Tryz.underlying3 a6
  obtain rfl : c0 = .int .i64 v0 := (List.cons.inj g0).1
  obtain rfl : c1 = .int .i64 v1 := (List.cons.inj g1).1
  obtain rfl : c2 = .int .i64 v2 := (List.cons.inj g2).1
  obtain rfl : c3 = .int .i64 v3 := (List.cons.inj g3).1
  obtain rfl : c4 = .int .u64 v4 := (List.cons.inj g4).1
  obtain rfl : c5 = .int .u64 v5 := (List.cons.inj g5).1
  obtain rfl : c6 = .int .i64 v6 := (List.cons.inj g6).1
  obtain rfl : c7 = .string v7 := (List.cons.inj g7).1
  obtain rfl : c8 = .int .i64 p0 := (List.cons.inj s0).1
  obtain rfl : c9 = .string p1 := (List.cons.inj s1).1
  obtain rfl : c10 = .int .u64 p2 := (List.cons.inj s2).1
  obtain rfl : c11 = .int .i64 p3 := (List.cons.inj s3).1
  obtain rfl : c12 = .int .i64 p4 := (List.cons.inj s4).1
  obtain rfl : c13 = .int .i64 p5 := (List.cons.inj s5).1
  obtain rfl : c14 = .int .i64 p6 := (List.cons.inj s6).1
  have hz : v7.data.toList.length ≤ 140737488351232 := by
    refine hw _ ?_
    simp only [DataW.weights, Tryz.underlying82]
    refine DataW.weights_mem_each (j := 7) (t := 9) (d := y7.1) rfl (by rw [List.getElem?_map, e7]; rfl) _ ?_
    rw [r7]
    simp [DataW.weights]
  have hzn : p1.data.toList.length ≤ 140737488351232 := by
    refine hw _ ?_
    simp only [DataW.weights, Tryz.underlying82]
    refine DataW.weights_mem_each (j := 8) (t := 61) (d := y8.1) rfl (by rw [List.getElem?_map, e8]; rfl) _ ?_
    rw [hy8]
    simp only [DataW.weights, Tryz.underlying61]
    refine DataW.weights_mem_each (j := 1) (t := 9) (d := z1.1) rfl (by rw [List.getElem?_map, b1]; rfl) _ ?_
    rw [t1]
    simp [DataW.weights]
  refine ⟨v0, ⟨v0, v1, v2, v3, UInt64.ofNat v4.toNat, UInt64.ofNat v5.toNat, v6, v7.data.toList, p0, p1.data.toList, UInt64.ofNat p2.toNat, p3, p4, p5, p6⟩, c15, c16, c17, c18, c19, c20, c21, c22, c23, c24, c25, c26, c27, c28, c29, c30, c31, c32, c33, c34, c35, c36, c37, c38, c39, c40, ⟨i64_of w0, i64_of w1, i64_of w2, i64_of w3, i64_of w6, hz, i64_of q0, hzn, i64_of q3, i64_of q4, i64_of q5, i64_of q6⟩, rfl, ?_⟩
  simp only [OpF.cells]
  rw [← u64_of w4, ← u64_of w5, ← u64_of q2]

theorem weights_all {H : Type} {P : Program} {e : TypeId} : ∀ {l : List (DataW H)} {d : DataW H}, d ∈ l → ∀ n ∈ d.weights P e, n ∈ DataW.weightsAll P e l
  | [], _, hd, _, _ => by simp at hd
  | d0 :: l, d, hd, n, hn => by
    simp only [DataW.weightsAll, List.mem_append]
    rcases List.mem_cons.1 hd with rfl | hd
    · exact Or.inl hn
    · exact Or.inr (weights_all hd n hn)

/-- What a script that came in is. -/
theorem script_of {H : Type} {enc : TypeId × Value → H} {W : World} {a : Option Addr} {len cap : Nat} {d : DataW H} {p : List MemPlace}
    (h : DataW.Trod enc Tryz.prog W 0 (fun _ => true) true 22 (.slice a len cap) d p) (hw : ∀ m ∈ d.weights Tryz.prog 22, m ≤ 140737488351232) :
    StepsAt OpOk W a len ∧ len * 392 ≤ 140737488351232 := by
  obtain ⟨fuel, hf⟩ := h
  rcases Go.Deep.open_slice Tryz.underlying22 hf with ⟨hcs, _⟩ | ⟨x, l, c, m, n, D, Pl, hcs, hb, hl, hm, hmm, hx, hel⟩
  · simp [Value.cells] at hcs
    obtain ⟨rfl, rfl, rfl⟩ := hcs
    exact ⟨fun i hi => absurd hi (by omega), by omega⟩
  · simp [Value.cells] at hcs
    obtain ⟨rfl, rfl, rfl⟩ := hcs
    simp only [Prod.mk.injEq] at hx
    obtain ⟨rfl, _⟩ := hx
    simp only [if_true] at hmm
    subst hmm
    have hbig : len * 392 ≤ 140737488351232 := by
      have := hw ((((List.range len).map D).length + ((List.range (m - len)).map fun j => D (len + j)).length) * Tryz.prog.bytesOf 82) (by simp only [DataW.weights, Tryz.underlying22, List.mem_cons, true_or])
      rw [bytesOp] at this
      simp only [List.length_map, List.length_range] at this
      omega
    refine ⟨fun i hi => ?_, by omega⟩
    obtain ⟨cs', h1, h2⟩ := hel i (by omega)
    rw [cellsOp] at h1
    obtain ⟨_, hlen', hcell⟩ := World.cells?_some h1
    have hc0 := hcell 0 (by decide)
    rw [List.getElem?_eq_getElem (by omega)] at hc0
    obtain ⟨b, off, spot⟩ := x
    have hspot : spot = none := by
      obtain ⟨cs0, k1, _⟩ := hel 0 (by omega)
      rw [cellsOp] at k1
      obtain ⟨_, hl0, k2⟩ := World.cells?_some k1
      have k3 := k2 0 (by decide)
      rw [List.getElem?_eq_getElem (by omega)] at k3
      simpa [Addr.add] using World.cell?_spot k3
    subst hspot
    have hlt : b < W.heap.size := by
      refine Nat.lt_of_not_le fun hge => ?_
      rw [Addr.add_lit, Addr.add_lit] at hc0
      simp [World.cell?, Array.getElem?_eq_none hge] at hc0
    have hstep : ∃ kind, OpOk kind cs'.toArray := by
      refine step_of (cs := cs') hlen' h2 ?_
      intro k hk
      refine hw k ?_
      simp only [DataW.weights, Tryz.underlying22, List.mem_cons, List.mem_append]
      exact Or.inr (Or.inl (weights_all (List.mem_map.2 ⟨i, by simpa using hi, rfl⟩) k hk))
    obtain ⟨kind, hok⟩ := hstep
    refine ⟨b, off, rfl, hlt, kind, cs'.toArray, by simpa using hlen', ?_, hok, ?_⟩
    · obtain ⟨o, c15, c16, c17, c18, c19, c20, c21, c22, c23, c24, c25, c26, c27, c28, c29, c30, c31, c32, c33, c34, c35, c36, c37, c38, c39, c40, _, hk, e⟩ := hok
      rw [e, ← hk]
      rfl
    · intro j v hv
      have hj : j < 41 := by
        have := (List.getElem?_eq_some_iff.1 hv).1
        simpa [hlen'] using this
      have := hcell j hj
      simp only [Addr.add_lit] at this
      rw [this]
      simpa using hv
end Go.Proofs.YtbanfbpfapjfcaaGreatDoor.scr
namespace Go.Proofs.YtbanfbpfapjfcaaGreatDoor
open Go.RowKit
set_option maxRecDepth 100000
variable {PP QP : Type} {D : Desks PP QP}

/-- Between the steps, behind i of them: the world began at w1. -/
structure LI (D : Desks PP QP) (PN : PP → Nat → Prop) (QN : QP → Nat → Prop) (w1 : World) (i : Nat) (wr : World) (d : WD PP QP) : Prop where
  sep : SepW D w1.heap.size w1.heap.size d wr
  below : Below w1.heap.size w1 wr
  eb : d.eb.length ≤ 2 * i
  ei : d.ei.length ≤ 2 * i
  es : d.es.length ≤ 2 * i
  ps : d.ps.length ≤ i
  qs : d.qs.length ≤ i
  dv : d.dv = .slice none 0 0
  ed : d.ed = []
  pn : ∀ p ∈ d.ps, PN p i
  qn : ∀ q ∈ d.qs, QN q i
variable {PN : PP → Nat → Prop} {QN : QP → Nat → Prop}
theorem LI.mono (hP : ∀ p i, PN p i → PN p (i + 1)) (hQ : ∀ q i, QN q i → QN q (i + 1)) {w1 wr : World} {i : Nat} {d : WD PP QP} (h : LI D PN QN w1 i wr d) : LI D PN QN w1 (i + 1) wr d :=
  ⟨h.sep, h.below, by have := h.eb; omega, by have := h.ei; omega, by have := h.es; omega, by have := h.ps; omega, by have := h.qs; omega, h.dv, h.ed, fun p hp => hP p i (h.pn p hp), fun q hq => hQ q i (h.qn q hq)⟩
theorem LI.grown {w1 wr w' : World} {i : Nat} {d : WD PP QP} (h : LI D PN QN w1 i wr d) (g : wr.grownBy w' none) : LI D PN QN w1 i w' d :=
  ⟨h.sep.grown g, h.below.trans (below_gb g h.below.size), h.eb, h.ei, h.es, h.ps, h.qs, h.dv, h.ed, h.pn, h.qn⟩
theorem LI.more (hP : ∀ p i, PN p i → PN p (i + 1)) (hQ : ∀ q i, QN q i → QN q (i + 1)) {w1 wr w' : World} {i : Nat} {d : WD PP QP} (h : LI D PN QN w1 i wr d) (k : More D w1.heap.size w1.heap.size 2 d wr w') : ∃ d', LI D PN QN w1 (i + 1) w' d' := by
  obtain ⟨⟨d', s, e1, e2, l1, l2, l3, e3, e4⟩, b⟩ := k
  have := h.eb
  have := h.ei
  have := h.es
  exact ⟨d', s, h.below.trans b, by omega, by omega, by omega, by rw [e1]; have := h.ps; omega, by rw [e2]; have := h.qs; omega, e3.trans h.dv, e4.trans h.ed, fun p hp => hP p i (h.pn p (by rw [← e1]; exact hp)), fun q hq => hQ q i (h.qn q (by rw [← e2]; exact hq))⟩
theorem LI.start {w1 wr : World} (hg : (w1.alloc world0).grownBy wr none) : LI D PN QN w1 0 wr ⟨.slice none 0 0, .slice none 0 0, .slice none 0 0, .slice none 0 0, .slice none 0 0, .slice none 0 0, [], [], [], [], [], []⟩ := by
  have hb : Blk wr w1.heap.size #[.slice none 0 0, .slice none 0 0, .slice none 0 0, .slice none 0 0, .slice none 0 0, .slice none 0 0] := (Blk.new w1 _ _).grown hg (by simp)
  have G := gb_trans (World.grownBy_alloc w1 _ none) hg
  have nof : ∀ j b, WD.F D w1.heap.size ⟨.slice none 0 0, .slice none 0 0, .slice none 0 0, .slice none 0 0, .slice none 0 0, .slice none 0 0, [], [], [], [], [], []⟩ j b → j = 0 ∧ b = w1.heap.size := by
    intro j b h
    match j, h with
    | 0, h => exact ⟨rfl, h⟩
    | 1, h => cases h
    | 2, h => cases h
    | 3, h => cases h
    | 4, h => obtain ⟨_, h, _⟩ := h; cases h
    | 5, h => cases h
    | 6, h => obtain ⟨_, h, _⟩ := h; cases h
    | 7, h => cases h
    | 8, h => obtain ⟨_, h, _⟩ := h; cases h
    | 9, h => cases h
    | 10, h => obtain ⟨_, h, _⟩ := h; cases h
    | k + 11, h =>
      simp only [WD.F] at h
      split at h <;> simp at h
  refine ⟨⟨fun j => ?_, fun j b h => by rw [(nof j b h).2]; exact hb.lt, fun j b h => by rw [(nof j b h).2]; exact Nat.le_refl _, fun i j b h k => by rw [(nof i b h).1, (nof j b k).1], by have := G.size; omega⟩, gb_below G, by simp, by simp, by simp, by simp, by simp, rfl, rfl, by simp, by simp⟩
  match j with
  | 0 => exact hb
  | 1 => exact World.ownsRow_nil _ _ _ _
  | 2 => exact World.ownsRow_nil _ _ _ _
  | 3 => exact World.ownsRow_nil _ _ _ _
  | 4 => intro x hx; cases hx
  | 5 => exact World.ownsRow_nil _ _ _ _
  | 6 => intro x hx; cases hx
  | 7 => exact World.ownsRow_nil _ _ _ _
  | 8 => intro x hx; cases hx
  | 9 => exact World.ownsRow_nil _ _ _ _
  | 10 => intro x hx; cases hx
  | k + 11 => simp only [WD.C]; split <;> (intro p hp; simp at hp)
/-- A look. -/
theorem LI.looks {w1 wr : World} {i : Nat} {d : WD PP QP} (h : LI D PN QN w1 i wr d) (hi : i * 392 ≤ 140737488355328 + 392) :
    Calls Tryz.prog 28 #[.pointer (some ⟨w1.heap.size, 2, none⟩)] wr fun e w' => e = .returned (.bool true) ∧ LI D PN QN w1 i w' d := by
  have h0 : Blk wr w1.heap.size d.cells := h.sep.here 0
  rw [WD.cells, h.dv] at h0
  have a := h.eb
  have b := h.ei
  have c := h.es
  refine (looks_V w1.heap.size w1.heap.size d.pv d.qv d.bv d.iv d.sv d.eb d.ei d.es wr h0 ⟨h.sep.here 3, fun x hx => (h.sep.here 4 x hx).1, fun x hx => (h.sep.here 4 x hx).2⟩ ⟨h.sep.here 5, fun x hx => (h.sep.here 6 x hx).1, fun x hx => (h.sep.here 6 x hx).2⟩ ⟨h.sep.here 7, fun x hx => (h.sep.here 8 x hx).1, fun x hx => (h.sep.here 8 x hx).2⟩ (by omega) (by omega) (by omega)).mono ?_
  rintro e w' ⟨rfl, g⟩
  exact ⟨rfl, h.grown g⟩
/-- A step of the kinds 1 to 4. -/
theorem LI.seal (hP : ∀ p i, PN p i → PN p (i + 1)) (hQ : ∀ q i, QN q i → QN q (i + 1)) {w1 wr : World} {i : Nat} {d : WD PP QP} (h : LI D PN QN w1 i wr d) (hi : i * 392 ≤ 140737488355328) {kind : Int} {cs : Array Value} (hk : kind = 1 ∨ kind = 2 ∨ kind = 3) (hgo : OpOk kind cs) :
    Calls Tryz.prog 27 #[.pointer (some ⟨w1.heap.size, 0, none⟩), .agg cs] wr fun e w' => e = .returned (.bool true) ∧ ∃ d', LI D PN QN w1 (i + 1) w' d' := by
  obtain ⟨o, c15, c16, c17, c18, c19, c20, c21, c22, c23, c24, c25, c26, c27, c28, c29, c30, c31, c32, c33, c34, c35, c36, c37, c38, c39, c40, hok, hko, rfl⟩ := hgo
  have a := h.eb
  refine (step_any d o.kind o.B o.C o.K o.D o.zs (.int .i64 o.A) (.int .i64 o.now) (.int .i64 o.ak) (.string ⟨o.an.toArray⟩) (.int .u64 (o.key.toNat : Int)) (.int .i64 o.life) (.int .i64 o.renew) (.int .i64 o.expire) (.int .i64 o.flags) c15 c16 c17 c18 c19 c20 c21 c22 c23 c24 c25 c26 c27 c28 c29 c30 c31 c32 c33 c34 c35 c36 c37 c38 c39 c40 wr (hid (by rw [hko]; exact hk)) hok.2.2.2.2.2.1 h.sep (by omega)).mono ?_
  rintro e w' ⟨rfl, m⟩
  exact ⟨rfl, h.more hP hQ m⟩
theorem LI.show (hP : ∀ p i, PN p i → PN p (i + 1)) (hQ : ∀ q i, QN q i → QN q (i + 1)) {w1 wr : World} {i : Nat} {d : WD PP QP} (h : LI D PN QN w1 i wr d) (htab : TabHere wr) {kind : Int} {cs : Array Value} (hk : kind = 4) (hgo : OpOk kind cs) :
    Calls Tryz.prog 27 #[.pointer (some ⟨w1.heap.size, 0, none⟩), .agg cs] wr fun e w' => e = .returned (.bool true) ∧ ∃ d', LI D PN QN w1 (i + 1) w' d' := by
  obtain ⟨o, c15, c16, c17, c18, c19, c20, c21, c22, c23, c24, c25, c26, c27, c28, c29, c30, c31, c32, c33, c34, c35, c36, c37, c38, c39, c40, hok, hko, rfl⟩ := hgo
  refine (step_show w1.heap.size o.B o.C o.K o.D o.zs (.int .i64 o.A) (.int .i64 o.now) (.int .i64 o.ak) (.string ⟨o.an.toArray⟩) (.int .u64 (o.key.toNat : Int)) (.int .i64 o.life) (.int .i64 o.renew) (.int .i64 o.expire) (.int .i64 o.flags) c15 c16 c17 c18 c19 c20 c21 c22 c23 c24 c25 c26 c27 c28 c29 c30 c31 c32 c33 c34 c35 c36 c37 c38 c39 c40 o.kind wr (by rw [hko, hk]) hok.2.2.2.2.2.1 htab).mono ?_
  rintro e w' ⟨rfl, g⟩
  exact ⟨rfl, d, (h.grown g).mono hP hQ⟩
end Go.Proofs.YtbanfbpfapjfcaaGreatDoor
