/-
  Laws on strings and bytes, and contracts of lent, back and allBytes. Conditions: in each statement.
-/
import Derived.Test.YtbanfbpfapjfcaaGreatDoorGRef2
import Derived.Lib.SliceRun
namespace Go.Proofs.YtbanfbpfapjfcaaGreatDoor
open Go.RowKit
set_option maxRecDepth 100000

/-- 'append(nil, s...)' of a string. -/
theorem wpList_append_str {P : Program} (w : World) {ops : Array Oper} {rest : List Oper} {o : Oper} {a : Act} {Q : Exit → Act → World → Prop}
    (hg : o.guard = none) (s x : Operand) (t u : TypeId) (hop : o.op = Op.call { callee := Callee.builtin Builtin.append, args := #[s, x], argTypes := #[t, u] })
    (e : TypeId) (i : TypeInfo) (h1 : P.underlying t = some (.slice e)) (hu : P.underlying u = some .string) (h2 : P.info? e = some i) (h3 : i.zero = some (.int .u8 0)) (h5 : i.bytes = 1)
    (hs : a.eval s = .slice none 0 0) (zs : List UInt8) (hx : a.eval x = .string ⟨zs.toArray⟩) (hb : zs.length ≤ 140737488355328)
    (hK : ∀ v' w', w'.ownsRow w.heap.size e 1 v' zs.length (zs.map U8) → w.grownBy w' none → wpList P ops Q rest (a.put o.dst v') w') :
    wpList P ops Q (o :: rest) a w := by
  refine wpList_plain hg fun K hK' => ?_
  have hsz : (⟨zs.toArray⟩ : ByteArray).size = zs.length := by simp [ByteArray.size]
  have key : ∃ v' w', (Builtin.append_ #[t, u] o.type #[.slice none 0 0, .string ⟨zs.toArray⟩]).run P w = .ok v' w' ∧ w'.ownsRow w.heap.size e 1 v' zs.length (zs.map U8) ∧ w.grownBy w' none := by
    by_cases hz : zs = []
    · subst hz
      refine ⟨.slice none 0 0, w, ?_, World.ownsRow_nil _ _ _ _, World.grownBy.refl _ _⟩
      simp [Builtin.append_, run_underlying h1, run_underlying hu, sizeOf, typeInfo, h2, Builtin.lenOf, Builtin.firstCells, ByteArray.size]
    · have hp : 0 < zs.length := List.length_pos_iff.2 hz
      have hr := run_append_nil_string (P := P) w t u o.type e i (.int .u8 0) h1 hu h2 h3 ⟨zs.toArray⟩ (by rw [hsz]; exact hp) (by rw [hsz]; omega) (by rw [hsz, h5]; omega)
      rw [hsz] at hr
      have hge := grownCap_ge w zs.length 0 e
      have hcm := grownCap_le_maxLen w zs.length 0 e (by unfold maxLen; omega)
      refine ⟨_, _, hr, ⟨by simp, .inr ⟨w.heap.size, _, _, rfl, Nat.le_refl _, heap_alloc_new w.drew _, hge, hcm, ?_, ?_⟩⟩, ⟨rfl, rfl, rfl, by simp, fun k hk _ => Below.heap_alloc w.drew _ k hk⟩⟩
      · simp [size_zeroCells, Value.cells]; omega
      · simp only [Nat.mul_one, Array.toList_append, Array.toList_map]
        rw [List.take_append_of_le_length (by simp), List.take_of_length_le (by simp)]
        rfl
  obtain ⟨v', w', hrun, r1, r2⟩ := key
  unfold Oper.wp
  simp [execOp, hop, resolve, invoke, builtin, hs, hx, hrun, Result.andThen]
  exact hK' _ _ (hK v' w' r1 r2)

/-- '[]byte(s)'. -/
theorem wpList_bytes_of {P : Program} (w : World) {ops : Array Oper} {rest : List Oper} {o : Oper} {a : Act} {Q : Exit → Act → World → Prop}
    (hg : o.guard = none) (x : Operand) (src dst : TypeId) (hop : o.op = Op.convert src dst x)
    (e : TypeId) (hs : P.underlying src = some .string) (hd : P.underlying dst = some (.slice e)) (he : P.underlying e = some (.int .u8)) (zs : List UInt8) (hx : a.eval x = .string ⟨zs.toArray⟩) (hb : zs.length ≤ 140737488355328)
    (hK : ∀ b cap w', zs.length ≤ cap → cap ≤ maxLen → At w' (some ⟨b, 0, none⟩) zs → w.grownBy w' none → wpList P ops Q rest (a.put o.dst (.slice (some ⟨b, 0, none⟩) zs.length cap)) w') :
    wpList P ops Q (o :: rest) a w := by
  refine wpList_plain hg fun K hK' => ?_
  have hsz : (⟨zs.toArray⟩ : ByteArray).size = zs.length := by simp [ByteArray.size]
  have hr := run_bytes_of_string (P := P) w src dst e ⟨zs.toArray⟩ hs hd he
  rw [hsz] at hr
  have hge := grownCap_ge w zs.length 0 e
  have hcm := grownCap_le_maxLen w zs.length 0 e (by unfold maxLen; omega)
  unfold Oper.wp
  simp [execOp, hop, hx, hr, Result.andThen]
  refine hK' _ _ (hK _ _ _ hge hcm ?_ ⟨rfl, rfl, rfl, by simp, fun k hk _ => Below.heap_alloc w.drew _ k hk⟩)
  refine At.some fun j hj => ?_
  have hh : ∀ (C : Array Value) (fr : Nat × Nat), (w.drew.alloc (.cells C e fr)).heap[w.heap.size]? = some (.cells C e fr) := fun C fr => heap_alloc_new w.drew _
  rw [Nat.zero_add, cell_of_row _ _ j _ e _ (hh _ _)]
  unfold bytesRow
  rw [Array.getElem?_append_left (by simpa using hj)]
  simp [hj]

theorem Buf.of_own {w : World} {base : Nat} {e : TypeId} {v : Value} {n : Nat} {bs : List UInt8} (h : w.ownsRow base e 1 v n (bs.map U8)) (hp : 0 < n) :
    ∃ g cap, v = .slice (some ⟨g, 0, none⟩) n cap ∧ base ≤ g ∧ Buf w g cap bs := by
  obtain ⟨hl, h⟩ := h
  have hn : n = bs.length := by simpa using hl.symm
  rcases h with ⟨rfl, rfl⟩ | ⟨g, cap, cur, rfl, hb, hg, hnc, hcm, hcs, htk⟩
  · omega
  · exact ⟨g, cap, rfl, hb, cur, e, hg, by simpa using hcs, hcm, by omega, by rw [← hn]; simpa using htk⟩

set_option maxHeartbeats 400000 in
theorem allBytes_any (zs : List UInt8) (m : UInt8) (n : Nat) (ao : Option Addr) (cap : Nat) (w : World) (hn : Hid (zs.length = n)) (hl : n ≤ 9223372036854775807) (hm : Hid (∀ z ∈ zs, z = m)) (hc : At w ao zs) :
    Calls Tryz.prog 50 #[.slice ao n cap, .int .u8 (m.toNat : Int)] w fun e w' => e = .returned (.bool true) ∧ w = w' := by
  obtain rfl := hn.out
  go_enter Tryz.func50, Tryz.ntmps50
  go_wp2
  go_loop [5] (fun i => ∃ k : Nat, k ≤ zs.length ∧ i = .int .i64 k) (fun i => zs.length - (intOf i).toNat)
  case atStart => exact ⟨0, Nat.zero_le _, rfl⟩
  case round =>
    obtain ⟨k, hk, rfl⟩ := hrel
    by_cases hlt : k < zs.length
    · obtain ⟨b, off, rfl, hck⟩ := hc k hlt
      rw [hm.out _ (List.getElem_mem hlt)] at hck
      clear hc
      go_wp2
      go_round
      case rel => exact ⟨k + 1, by omega, by go_num⟩
      case measure => simp [intOf]; omega
    · clear hc
      go_wp2
      go_ret
      exact ⟨rfl, rfl⟩

set_option maxHeartbeats 400000 in
theorem lent_nil (w : World) :
    Calls Tryz.prog 67 #[.string ⟨([] : List UInt8).toArray⟩, .bool true] w fun e w' => e = .returned (.slice none 0 0) ∧ w = w' := by
  go_enter Tryz.func67, Tryz.ntmps67
  go_wp2
  go_ret
  exact ⟨rfl, rfl⟩

set_option maxHeartbeats 400000 in
theorem lent_any (zs : List UInt8) (nb : Bool) (w : World) (hl : zs.length ≤ 140737488351232) (hz : Hid (zs.isEmpty = false ∨ nb = false)) :
    Calls Tryz.prog 67 #[.string ⟨zs.toArray⟩, .bool nb] w fun e w' => ∃ g cap, e = .returned (.slice (some ⟨g, 0, none⟩) zs.length cap) ∧ w.heap.size ≤ g ∧ Buf w' g cap (zs ++ [77]) ∧ w.grownBy w' none := by
  obtain ⟨i0, hif, hz0, hz1, hz2⟩ := info_parts Tryz.info5
  have hb : zs.length ≤ 140737488355328 := by omega
  have hb1 : zs.length + 1 ≤ 140737488355328 := by omega
  rcases hz.out with he | hn
  · clear hz
    go_enter Tryz.func67, Tryz.ntmps67
    go_wp2_with (first | (at_builtin; refine wpList_append_str _ rfl _ _ 32 9 rfl 5 i0 Tryz.underlying32 Tryz.underlying9 hif hz0 hz2 rfl zs rfl hb ?_; intro v1 w1 hown1 hg1) | (at_builtin; refine wpList_append_at _ rfl _ _ 32 rfl w.heap.size 5 i0 Tryz.underlying32 hif hz0 hz1 hz2 _ _ _ rfl (hown1.alloc _) (some ⟨w1.heap.size, 0, none⟩) 1 1 [77] rfl rfl (by intro h; cases h) (bytes_new w1 _ _ _ rfl) hb1 (by have := hg1.size; simp; omega) ?_; intro v2 w2 hown2 hg2 _; obtain ⟨g, cap, hv, hbg, hbuf⟩ := Buf.of_own hown2 (by omega); have G2 := gb_row (gb_alloc hg1 _) hg2 (fun i hi => (hown1.lt i hi).1); subst hv; have hroom := hbuf.room; simp at hroom; clear hown2 hg2))
    go_ret
    exact ⟨g, cap, rfl, hbg, hbuf, G2⟩
  · subst hn
    clear hz
    cases he : zs.isEmpty
    all_goals
      go_enter Tryz.func67, Tryz.ntmps67
      go_wp2_with (first | (at_builtin; refine wpList_append_str _ rfl _ _ 32 9 rfl 5 i0 Tryz.underlying32 Tryz.underlying9 hif hz0 hz2 rfl zs rfl hb ?_; intro v1 w1 hown1 hg1) | (at_builtin; refine wpList_append_at _ rfl _ _ 32 rfl w.heap.size 5 i0 Tryz.underlying32 hif hz0 hz1 hz2 _ _ _ rfl (hown1.alloc _) (some ⟨w1.heap.size, 0, none⟩) 1 1 [77] rfl rfl (by intro h; cases h) (bytes_new w1 _ _ _ rfl) hb1 (by have := hg1.size; simp; omega) ?_; intro v2 w2 hown2 hg2 _; obtain ⟨g, cap, hv, hbg, hbuf⟩ := Buf.of_own hown2 (by omega); have G2 := gb_row (gb_alloc hg1 _) hg2 (fun i hi => (hown1.lt i hi).1); subst hv; have hroom := hbuf.room; simp at hroom; clear hown2 hg2))
      go_ret
      exact ⟨g, cap, rfl, hbg, hbuf, G2⟩

theorem Buf.prefix {w : World} {g cap : Nat} {xs ys : List UInt8} (h : Buf w g cap (xs ++ ys)) : Buf w g cap xs := by
  obtain ⟨cur, e, h1, h2, h3, h4, h5⟩ := h
  refine ⟨cur, e, h1, h2, h3, by simp at h4; omega, ?_⟩
  have e2 : (List.map U8 (xs ++ ys)).take xs.length = xs.map U8 := by
    rw [List.map_append, List.take_append_of_le_length (by simp), List.take_of_length_le (by simp)]
  have h := congrArg (List.take xs.length) h5
  rw [e2, List.take_take, Nat.min_eq_left (by simp)] at h
  exact h

set_option maxHeartbeats 400000 in
theorem back_nil (zs : List UInt8) (w : World) (hz : Hid (zs = [])) :
    Calls Tryz.prog 69 #[.slice none 0 0, .string ⟨zs.toArray⟩] w fun e w' => e = .returned (.bool true) ∧ w = w' := by
  obtain rfl := hz.out
  have heq := fun (w : World) => Lib.run_eql_slice_nil (P := Tryz.prog) w 32 5 none 0 0 0 0 Tryz.underlying32
  go_enter Tryz.func69, Tryz.ntmps69
  go_wp2
  go_ret
  exact ⟨rfl, rfl⟩

theorem gb_set0 {a b : World} {g j : Nat} {u : Value} (h : a.grownBy b (some g)) : a.grownBy (b.setCell ⟨g, j, none⟩ u) (some g) :=
  ⟨h.os, h.tape, h.output, by rw [World.size_setCell]; exact h.size, fun k hk hr => (Below.heap_setCell b _ u k (by show k ≠ g; intro e; exact hr (by rw [e]))).trans (h.block k hk hr)⟩

set_option maxHeartbeats 1000000 in
theorem back_any (zs : List UInt8) (n g cap : Nat) (w : World) (hn : Hid (zs.length = n)) (hl : n ≤ 140737488351232) (hb : Buf w g cap (zs ++ [77])) :
    Calls Tryz.prog 69 #[.slice (some ⟨g, 0, none⟩) n cap, .string ⟨zs.toArray⟩] w fun e w' => e = .returned (.bool true) ∧ w.grownBy w' (some g) := by
  obtain rfl := hn.out
  have heq := fun (w : World) => Lib.run_eql_slice_nil (P := Tryz.prog) w 32 5 (some ⟨g, 0, none⟩) zs.length cap 0 0 Tryz.underlying32
  have hcv := run_string_of (P := Tryz.prog) w 32 9 5 Tryz.underlying32 Tryz.underlying5 Tryz.underlying9 (some ⟨g, 0, none⟩) cap zs hb.prefix.at
  have h77 : w.cell? ⟨g, zs.length, none⟩ = some (.int .u8 77) := by
    have h := hb.cell zs.length (by simp)
    simpa using h
  have hroom := hb.room
  simp at hroom
  have hmx := hb.maxLen
  unfold maxLen at hmx
  have hb0 := hb.empty
  go_enter Tryz.func69, Tryz.ntmps69
  go_wp2
  go_loopw [7] (fun i wr => ∃ k : Nat, k ≤ zs.length + 1 ∧ i = .int .i64 k ∧ (∃ bs, bs.length = zs.length + 1 ∧ Buf wr g cap bs) ∧ w.grownBy wr (some g)) (fun i _ => zs.length + 1 - (intOf i).toNat)
  case atStart => exact ⟨0, Nat.zero_le _, rfl, ⟨_, by simp, hb⟩, World.grownBy.refl _ _⟩
  case round =>
    obtain ⟨k, hk, rfl, ⟨bs, hbl, hbr⟩, hgr⟩ := hrel
    have HB : Hid (bs.length = zs.length + 1) := hbl
    clear hbl hcv h77 hb hb0
    by_cases hlt : k < zs.length + 1
    · have hck := hbr.cell k (by rw [HB.out]; exact hlt)
      have hfk := hbr.frozen k
      have R := hbr.set k 78
      have G := gb_set0 (j := k) (u := .int .u8 ((78 : UInt8).toNat : Int)) hgr
      go_wp2
      go_roundw
      case rel => exact ⟨k + 1, by omega, by go_num, ⟨_, by rw [List.length_set]; exact HB.out, R⟩, G⟩
      case measure => simp [intOf]; omega
    · go_wp2
      go_ret
      exact ⟨rfl, hgr⟩

end Go.Proofs.YtbanfbpfapjfcaaGreatDoor
