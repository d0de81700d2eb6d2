/-
  Contract of the document's answer: Sealed. Conditions: at most 65535 bytes of plain.
  Contracts of the document's answer: Opened, Seal and Unseal. Conditions: in each statement.
-/
import Derived.Test.YtbanfbpfapjfcaaGreatDoorGOpen
import Derived.Test.YtbanfbpfapjfcaaGreatDoorGBase
import Derived.Deep.RegionLaw
import Derived.Deep.DeepCutAuto
namespace Go.Proofs.YtbanfbpfapjfcaaGreatDoor
open Go.RowKit
set_option maxRecDepth 100000

theorem be_one (u : UInt64) : Pure.be u 1 = [Pure.byteAt u 0] := rfl
theorem be_two (u : UInt64) : Pure.be u 2 = [Pure.byteAt u 1, Pure.byteAt u 0] := rfl
theorem byte0_int (u : UInt64) (x : Int) (hx : x = u.toNat) (h0 : 0 ≤ x) : IntKind.u8.wrap x = ((Pure.byteAt u 0).toNat : Int) := by
  subst hx
  have e : (Pure.byteAt u 0).toNat = u.toNat % 256 := by simp [Pure.byteAt]
  rw [e, IntKind.wrap_u8']
  omega

theorem items4 (w : World) (e : TypeId) (a0 a1 a2 a3 : Option Addr) (c0 c1 c2 c3 l0 l1 l2 l3 : Nat) (z0 z1 z2 z3 : List UInt8) (h0 : At w a0 z0) (h1 : At w a1 z1) (h2 : At w a2 z2) (h3 : At w a3 z3)
    (n0 : Hid (a0 = none → c0 = 0)) (n1 : Hid (a1 = none → c1 = 0)) (n2 : Hid (a2 = none → c2 = 0)) (n3 : Hid (a3 = none → c3 = 0)) (e0 : z0.length = l0) (e1 : z1.length = l1) (e2 : z2.length = l2) (e3 : z3.length = l3) :
    Items (w.alloc (.cells #[.slice a0 l0 c0, .slice a1 l1 c1, .slice a2 l2 c2, .slice a3 l3 c3] e)) w.heap.size [(a0, c0, z0), (a1, c1, z1), (a2, c2, z2), (a3, c3, z3)] := by
  subst e0 e1 e2 e3
  have g : ∀ o, w.grownBy (w.alloc o) none := fun o => World.grownBy_alloc w o none
  intro j hj
  match j, hj with
  | 0, _ => exact ⟨by rw [World.cell?_alloc_at (hn := rfl)]; rfl, h0.below (g _), n0⟩
  | 1, _ => exact ⟨by rw [World.cell?_alloc_at (hn := rfl)]; rfl, h1.below (g _), n1⟩
  | 2, _ => exact ⟨by rw [World.cell?_alloc_at (hn := rfl)]; rfl, h2.below (g _), n2⟩
  | 3, _ => exact ⟨by rw [World.cell?_alloc_at (hn := rfl)]; rfl, h3.below (g _), n3⟩

theorem hash_head (key use draw : UInt64) (l : List UInt8) : Pure.hashL 0 (cat [(none, 0, Pure.be key 8), (none, 0, Pure.be use 1), (none, 0, Pure.be draw 8), (none, 0, l)]) = Pure.hashL (Pure.head key use draw) l := by
  simp only [cat, List.map_cons, List.map_nil, List.flatten_cons, List.flatten_nil, List.append_nil]
  rw [Pure.head, Pure.headB, ← Pure.hashL_append]
  simp

/-- A call of a Go function, met by its contract, as one step of a region that draws. -/
theorem step_call {P : Program} {ops : Array Oper} {o : Oper} {a : Act} {w : World} {K : Act → World → Prop} {Q : Exit → Act → World → Prop} {E : Prop}
    (hg : o.guard = none) (f : FuncId) (xs : Array Operand) (ats : Array TypeId) (hop : o.op = Op.call { callee := Callee.value (Operand.func f), args := xs, argTypes := ats })
    (fn : Func) (hf : P.funcs[f]? = some fn) (hname : (fn.name == "runtime.NumGoroutine") = false) (hbody : fn.body.isNone = false) (vs : Array Value) (hv : #[] ++ xs.map a.eval ++ #[] = vs) {R : Ending → World → Prop} (hc : Calls P f vs w R)
    (hK : ∀ e w', R e w' → ∃ v, e = .returned v ∧ K (a.put o.dst v) w') :
    if Region.wanted o (yielded ops a.tmps) = true then Oper.wp P o a w K Q else E := by
  have hw : Region.wanted o (yielded ops a.tmps) = true := by simp [Region.wanted, hg]
  rw [if_pos hw]
  have hx : execOp a.eval o = callFunc f (#[] ++ xs.map a.eval ++ #[]) := by
    obtain ⟨dst, op, type, pos, after, guard⟩ := o
    simp only at hop hg
    subst hop hg
    rfl
  have hr : (callFunc f (#[] ++ xs.map a.eval ++ #[])).run P w = .ok (.enter f vs) w := by
    rw [hv]
    have h1 : ¬ fn.name = "runtime.NumGoroutine" := by simpa using hname
    have h2 : ¬ fn.body = none := by intro h; simp [h] at hbody
    simp [callFunc, hf, h1, h2]
  unfold Oper.wp
  rw [hx, hr, Oper.upon_enter]
  refine hc.mono ?_
  intro e w' h
  obtain ⟨v, rfl, h2⟩ := hK e w' h
  exact h2

theorem eight0 {w : World} {base : Nat} {e : TypeId} {v : Value} {h : UInt64} (hown : w.ownsRow base e 1 v 8 ((Pure.be h 8).map U8)) :
    ∃ b off cap, v = .slice (some ⟨b, off, none⟩) 8 cap ∧ w.cell? ⟨b, off, none⟩ = some (.int .u8 ((Pure.byteAt h 7).toNat : Int)) := by
  obtain ⟨ao, cap, hv, _, _, _, hat⟩ := own_at2 hown
  obtain ⟨b, off, h1, h2⟩ := hat 0 (by rw [Pure.be_length]; omega)
  subst h1
  exact ⟨b, off, cap, hv, h2⟩

theorem xor_mask (x y : UInt8) : bits .xor .u8 (x.toNat : Int) (y.toNat : Int) = ((x ^^^ y).toNat : Int) := by
  rw [u8_xor_nat _ _ x.toNat_lt y.toNat_lt, UInt8.toNat_xor]

theorem name8 : (Tryz.f148.name == "runtime.NumGoroutine") = false := by kernel_rfl
theorem body8 : Tryz.f148.body.isNone = false := by kernel_rfl

set_option maxHeartbeats 1000000 in
theorem rsealed_any (key use draw : UInt64) (x : Int) (zs : List UInt8) (n : Nat) (ao : Option Addr) (cap : Nat) (w : World) (hx : 1 ≤ x ∧ x ≤ 5) (hu : Hid (x = use.toNat)) (hn : Hid (zs.length = n)) (hl : n ≤ 1000) (hnc : ao = none → cap = 0) (hz : At w ao zs) :
    Calls Tryz.prog 104 #[.int .u64 (key.toNat : Int), .int .i64 x, .int .u64 (draw.toNat : Int), .slice ao n cap] w fun e w' =>
      ∃ o, e = .returned o ∧ w'.ownsRow w.heap.size 5 1 o (n + 16) ((Pure.sealL key use draw zs).map U8) ∧ w.grownBy w' none := by
  obtain ⟨i0, hif, hz0, hz1, hz2⟩ := info_parts Tryz.info5
  obtain ⟨hx1, hx2⟩ := hx
  go_enter Tryz.func104, Tryz.ntmps104
  go_wp2_with fail
  refine (eight_own draw _).mono ?_
  rintro e w1 ⟨o1, rfl, hown1, hg1⟩
  go_wp2_with fail
  refine (eight_own key _).mono ?_
  rintro e w2 ⟨o2, rfl, hown2, hg2⟩
  obtain ⟨ak, ck, hv, _, _, hcn, hatk⟩ := own_at2 hown2
  subst hv
  obtain ⟨bk, okk, hak0, hbk2⟩ := hatk.addr (by rw [Pure.be_length]; omega)
  subst hak0
  have hne0 : Hid (o1.ownBlock ≠ some bk) := by
    intro h
    have h1 := (hown1.lt bk h).2
    have h2 := (hown2.lt bk rfl).1
    omega
  have hown1' : w2.ownsRow w.heap.size 5 1 o1 8 ((Pure.be draw 8).map U8) := hown1.kept hg2 (by cases h : o1.ownBlock <;> simp)
  have G2 := gb_trans hg1 hg2
  clear hown1 hown2 hg1 hg2
  go_wp2
  go_loopw [9, 11, 12] (fun o i _ wr => ∃ k : Nat, k ≤ n ∧ i = .int .i64 k ∧ wr.ownsRow w.heap.size 5 1 o (8 + k) ((Pure.be draw 8 ++ Pure.veil (Pure.head key use draw) (zs.take k)).map U8) ∧ At wr (some ⟨bk, okk, none⟩) (Pure.be key 8) ∧ w.grownBy wr none ∧ Hid (o.ownBlock ≠ some bk) ∧ bk < wr.heap.size) (fun _ i _ _ => n - (intOf i).toNat)
  case atStart => exact ⟨0, by omega, rfl, by simpa [Pure.veil] using hown1', hatk, G2, hne0, hbk2⟩
  case round =>
    obtain ⟨k, hk, rfl, hown, hak, hgr, hne9, hbk⟩ := hrel
    by_cases hlt : k < n
    · have eU : x = ((Pure.byteAt use 0).toNat : Int) := by
        have h := hu.out
        have e : (Pure.byteAt use 0).toNat = use.toNat % 256 := by simp [Pure.byteAt]
        rw [e]; omega
      have HU : Hid (x = ((Pure.byteAt use 0).toNat : Int)) := eU
      clear eU
      go_wp2_with fail
      refine (eight_own draw _).mono ?_
      rintro e w3 ⟨o3, rfl, hown3, hg3⟩
      obtain ⟨ad, cd, hv, _, _, hdn, hatd⟩ := own_at2 hown3
      subst hv
      clear hown3
      have hau : At w3 (some ⟨wr.heap.size, 0, none⟩) (Pure.be use 1) := (bytes_new wr _ #[.int .u8 x] _ (by rw [HU.out]; rfl)).below hg3
      have hak3 : At w3 (some ⟨bk, okk, none⟩) (Pure.be key 8) := (hak.below (World.grownBy_alloc wr _ none)).below hg3
      have hwr : wr.heap.size < w3.heap.size := by have := hg3.size; simp at this; omega
      obtain ⟨J, HJ⟩ : ∃ J, Hid (cat [(some ⟨bk, okk, none⟩, ck, Pure.be key 8), (some ⟨wr.heap.size, 0, none⟩, 1, Pure.be use 1), (ad, cd, Pure.be draw 8), (some ⟨w3.heap.size, 0, none⟩, 2, Pure.be (UInt64.ofNat k) 2)] = J) := ⟨_, rfl⟩
      have HJl : Hid (J.length = 19) := by show _ = _; rw [← HJ.out]; simp [cat, Pure.be_length]
      have HJh : Hid (Pure.hashL 0 J = Pure.hashL (Pure.head key use draw) (Pure.be (UInt64.ofNat k) 2)) := by show _ = _; rw [← HJ.out]; exact hash_head key use draw _
      have hJb : J.length ≤ 140737488355328 := by rw [HJl.out]; omega
      have e2 : #[Value.int IntKind.u8 ((k : Int) / 256), Value.int IntKind.u8 ((k : Int) % 256)].toList = (Pure.be (UInt64.ofNat k) 2).map U8 := by
        have e1 : (UInt64.ofNat k).toNat = k := Pure.ofNat_small k (by omega)
        have b1 : (Pure.byteAt (UInt64.ofNat k) 1).toNat = k / 256 % 256 := by simp [Pure.byteAt, e1]
        have b0 : (Pure.byteAt (UInt64.ofNat k) 0).toNat = k % 256 := by simp [Pure.byteAt, e1]
        rw [be_two]
        simp only [List.map_cons, List.map_nil, U8, b1, b0]
        rw [show ((k : Int) / 256) = ((k / 256 % 256 : Nat) : Int) from by omega, show ((k : Int) % 256) = ((k % 256 : Nat) : Int) from by omega]
      have hI : Items ((w3.alloc (Obj.cells #[Value.int IntKind.u8 ((k : Int) / 256), Value.int IntKind.u8 ((k : Int) % 256)] 5)).alloc (Obj.cells #[Value.slice (some ⟨bk, okk, none⟩) 8 ck, Value.slice (some ⟨wr.heap.size, 0, none⟩) 1 1, Value.slice ad 8 cd, Value.slice (some ⟨w3.heap.size, 0, none⟩) 2 2] 32)) (w3.heap.size + 1) [(some ⟨bk, okk, none⟩, ck, Pure.be key 8), (some ⟨wr.heap.size, 0, none⟩, 1, Pure.be use 1), (ad, cd, Pure.be draw 8), (some ⟨w3.heap.size, 0, none⟩, 2, Pure.be (UInt64.ofNat k) 2)] := by
        have g := World.grownBy_alloc w3 (Obj.cells #[Value.int IntKind.u8 ((k : Int) / 256), Value.int IntKind.u8 ((k : Int) % 256)] 5) none
        have h := items4 (w3.alloc (Obj.cells #[Value.int IntKind.u8 ((k : Int) / 256), Value.int IntKind.u8 ((k : Int) % 256)] 5)) 32 (some ⟨bk, okk, none⟩) (some ⟨wr.heap.size, 0, none⟩) ad (some ⟨w3.heap.size, 0, none⟩) ck 1 cd 2 8 1 8 2 _ _ _ _ (hak3.below g) (hau.below g) (hatd.below g) (bytes_new w3 _ _ _ e2) hcn (by intro h; cases h) hdn (by intro h; cases h) (Pure.be_length _ _) (Pure.be_length _ _) (Pure.be_length _ _) (Pure.be_length _ _)
        rw [World.size_alloc] at h
        exact h
      clear e2
      go_wp2_with fail
      refine (joined_n (w3.heap.size + 1) 4 4 _ J _ (by show List.length _ = 4; rfl) HJ (by omega) hJb hI).mono ?_
      rintro e w4 ⟨o4, rfl, hown4, hg4⟩
      obtain ⟨aj, cj, hv, _, _, _, hatj⟩ := own_at2 hown4
      subst hv
      have G4 : w.grownBy w4 none := gb_trans (gb_alloc (gb_alloc (gb_trans (gb_alloc hgr _) hg3) _) _) hg4
      have hbk4 : bk < w4.heap.size := by have h1 := hg3.size; have h2 := hg4.size; simp at h1 h2; omega
      have K4 : wr.grownBy w4 none := gb_trans (gb_alloc (gb_alloc (gb_trans (World.grownBy_alloc wr _ _) hg3) _) _) hg4
      have hown5 : w4.ownsRow w.heap.size 5 1 u9 (8 + k) ((Pure.be draw 8 ++ Pure.veil (Pure.head key use draw) (zs.take k)).map U8) := hown.kept K4 (by cases h : u9.ownBlock <;> simp)
      have hak5 := hak.below K4
      clear hown4 hI hatd hau hak3 hown hak hgr hg3 hg4 hwr
      go_wp2_with fail
      refine (rhash_any J J.length _ _ _ (hid rfl) hJb hatj).mono ?_
      rintro e w' ⟨rfl, rfl⟩
      rw [HJh.out]
      have hlz : k < zs.length := by rw [hn.out]; exact hlt
      obtain ⟨bz, oz, rfl, hcz⟩ := (hz.below G4) k hlz
      have hbz := World.block_lt_of_cell? w4 _ hcz
      go_wp2_with fail
      have hbd : 8 + k + 1 ≤ 140737488355328 := by omega
      have hsz4 := G4.size
      go_region_law (first | (refine step_call rfl 148 _ _ rfl Tryz.f148 Tryz.func148 name8 body8 #[.int .u64 ((Pure.hashL (Pure.head key use draw) (Pure.be (UInt64.ofNat k) 2)).toNat : Int)] (by first | rfl | simp [Act.eval, Act.put]) (eight_own _ _) ?_; rintro e w5 ⟨o5, rfl, hown6, hg6⟩; refine ⟨_, rfl, ?_⟩; obtain ⟨b5, off5, c5, hv5, hc5⟩ := eight0 hown6; subst hv5; have hcz5 : w5.cell? ⟨bz, oz + k, none⟩ = some (.int .u8 (zs[k].toNat : Int)) := hg6.cell hcz (by simp); have K5 := gb_undrew hg6; have hown7 : w5.ownsRow w.heap.size 5 1 u9 (8 + k) ((Pure.be draw 8 ++ Pure.veil (Pure.head key use draw) (zs.take k)).map U8) := hown5.kept K5 (by cases h : u9.ownBlock <;> simp); have hsz5 : w4.heap.size ≤ w5.heap.size := K5.size) | (refine step_append_at rfl _ _ 32 rfl w.heap.size 5 i0 Tryz.underlying32 hif hz0 hz1 hz2 u9 (8 + k) _ ?s1 (hown7.alloc _) (some ⟨w5.heap.size, 0, none⟩) 1 1 [zs[k] ^^^ Pure.mask (Pure.head key use draw) k] ?s2 rfl ?s3 ?s4 hbd ?s5 ?_; (case s1 => first | rfl | simp [Act.eval, Act.put]); (case s2 => first | rfl | simp [Act.eval, Act.put]); (case s3 => intro h; cases h); (case s4 => exact bytes_new w5 _ _ _ (by rw [xor_mask]; rfl)); (case s5 => simp; omega); intro v' w6 hown8 hg8 hblk))
      all_goals
        have R : w6.ownsRow w.heap.size 5 1 v' (8 + (k + 1)) ((Pure.be draw 8 ++ Pure.veil (Pure.head key use draw) (zs.take (k + 1))).map U8) ∧ At w6 (some ⟨bk, okk, none⟩) (Pure.be key 8) ∧ w.grownBy w6 none ∧ Hid (v'.ownBlock ≠ some bk) ∧ bk < w6.heap.size := by
          refine ⟨?_, ?_, ?_, ?_, ?_⟩
          · rw [Pure.veil_take _ zs k hlz, ← List.append_assoc]; exact hown8
          · exact ((hak5.below K5).below (World.grownBy_alloc _ _ _)).grown hg8 (fun b off h _ => by simp at h; intro e; exact hne9.out (by rw [← e, h.1]))
          · exact gb_row (gb_alloc (gb_trans G4 K5) _) hg8 (fun i hi => (hown7.lt i hi).1)
          · intro h
            rcases hblk.out with h1 | h1
            · exact hne9.out (h1 ▸ h)
            · rw [h1] at h; simp at h; omega
          · have := hg8.size; simp at this; omega
        clear hown8 hg8 hblk hown7 hcz5 hc5 hown6 hg6 K5 hown5 hak5 hcz G4 K4 hatj
        go_wp2
        go_roundw
        case rel => exact ⟨k + 1, by omega, by go_num, R.1, R.2.1, R.2.2.1, R.2.2.2.1, R.2.2.2.2⟩
        case measure => simp [intOf]; omega
    · have hkn : k = n := by omega
      subst hkn
      have eU : x = ((Pure.byteAt use 0).toNat : Int) := by
        have h := hu.out
        have e : (Pure.byteAt use 0).toNat = use.toNat % 256 := by simp [Pure.byteAt]
        rw [e]; omega
      have HU : Hid (x = ((Pure.byteAt use 0).toNat : Int)) := eU
      clear eU
      have hown0 : wr.ownsRow w.heap.size 5 1 u9 (8 + k) ((Pure.be draw 8 ++ Pure.veil (Pure.head key use draw) zs).map U8) := by
        rw [List.take_of_length_le (by rw [hn.out]; omega)] at hown; exact hown
      have hzr := hz.below hgr
      clear hown
      go_wp2_with fail
      refine (eight_own draw _).mono ?_
      rintro e w3 ⟨o3, rfl, hown3, hg3⟩
      obtain ⟨ad, cd, hv, _, _, hdn, hatd⟩ := own_at2 hown3
      subst hv
      clear hown3
      have hau : At w3 (some ⟨wr.heap.size, 0, none⟩) (Pure.be use 1) := (bytes_new wr _ #[.int .u8 x] _ (by rw [HU.out]; rfl)).below hg3
      have hak3 : At w3 (some ⟨bk, okk, none⟩) (Pure.be key 8) := (hak.below (World.grownBy_alloc wr _ none)).below hg3
      have hz3 : At w3 ao zs := (hzr.below (World.grownBy_alloc wr _ none)).below hg3
      obtain ⟨J, HJ⟩ : ∃ J, Hid (cat [(some ⟨bk, okk, none⟩, ck, Pure.be key 8), (some ⟨wr.heap.size, 0, none⟩, 1, Pure.be use 1), (ad, cd, Pure.be draw 8), (ao, cap, zs)] = J) := ⟨_, rfl⟩
      have hJb : J.length ≤ 140737488355328 := by
        have h := hn.out
        rw [← HJ.out]; simp [cat, Pure.be_length]; omega
      have HJh : Hid (Pure.hashL 0 J = Pure.hashL (Pure.head key use draw) zs) := by show _ = _; rw [← HJ.out]; exact hash_head key use draw _
      have hI : Items (w3.alloc (Obj.cells #[Value.slice (some ⟨bk, okk, none⟩) 8 ck, Value.slice (some ⟨wr.heap.size, 0, none⟩) 1 1, Value.slice ad 8 cd, Value.slice ao k cap] 32)) w3.heap.size [(some ⟨bk, okk, none⟩, ck, Pure.be key 8), (some ⟨wr.heap.size, 0, none⟩, 1, Pure.be use 1), (ad, cd, Pure.be draw 8), (ao, cap, zs)] :=
        items4 w3 32 (some ⟨bk, okk, none⟩) (some ⟨wr.heap.size, 0, none⟩) ad ao ck 1 cd cap 8 1 8 k _ _ _ _ hak3 hau hatd hz3 hcn (by intro h; cases h) hdn hnc (Pure.be_length _ _) (Pure.be_length _ _) (Pure.be_length _ _) hn.out
      have HNC : Hid (ao = none → cap = 0) := hnc
      clear hnc
      go_wp2_with fail
      refine (joined_n w3.heap.size 4 4 _ J _ (by show List.length _ = 4; rfl) HJ (by omega) hJb hI).mono ?_
      rintro e w4 ⟨o4, rfl, hown4, hg4⟩
      obtain ⟨aj, cj, hv, _, _, _, hatj⟩ := own_at2 hown4
      subst hv
      have G4 : w.grownBy w4 none := gb_trans (gb_alloc (gb_trans (gb_alloc hgr _) hg3) _) hg4
      have K4 : wr.grownBy w4 none := gb_trans (gb_alloc (gb_trans (World.grownBy_alloc wr _ _) hg3) _) hg4
      have hown5 : w4.ownsRow w.heap.size 5 1 u9 (8 + k) ((Pure.be draw 8 ++ Pure.veil (Pure.head key use draw) zs).map U8) := hown0.kept K4 (by cases h : u9.ownBlock <;> simp)
      clear hown4 hI hatd hau hak3 hown0 hak hgr hg3 hg4 hz3 hzr K4
      go_wp2_with fail
      refine (rhash_any J J.length _ _ _ (hid rfl) hJb hatj).mono ?_
      rintro e w' ⟨rfl, rfl⟩
      rw [HJh.out]
      clear hatj
      go_wp2_with fail
      refine (eight_own _ _).mono ?_
      rintro e w5 ⟨o5, rfl, hown6, hg6⟩
      obtain ⟨ah, c5, hv5, _, _, hhn, hat5⟩ := own_at2 hown6
      subst hv5
      have hown7 : w5.ownsRow w.heap.size 5 1 u9 (8 + k) ((Pure.be draw 8 ++ Pure.veil (Pure.head key use draw) zs).map U8) := hown5.kept hg6 (by cases h : u9.ownBlock <;> simp)
      have hsz5 : w.heap.size ≤ w5.heap.size := Nat.le_trans G4.size hg6.size
      have hbd : 8 + k + 8 ≤ 140737488355328 := by omega
      have H8 : Hid ((Pure.be (Pure.hashL (Pure.head key use draw) zs) 8).length = 8) := Pure.be_length _ _
      have G5 := gb_trans G4 hg6
      clear hown6 hown5 hg6 G4
      go_wp2_with (at_builtin; refine wpList_append_at _ rfl _ _ 32 rfl w.heap.size 5 i0 Tryz.underlying32 hif hz0 hz1 hz2 _ _ _ rfl hown7 _ _ _ (Pure.be (Pure.hashL (Pure.head key use draw) zs) 8) rfl H8.out hhn.out hat5 hbd hsz5 ?_; intro v' w6 hown8 hg8 _)
      have R : w6.ownsRow w.heap.size 5 1 v' (k + 16) ((Pure.sealL key use draw zs).map U8) ∧ w.grownBy w6 none := by
        refine ⟨?_, gb_row G5 hg8 (fun i hi => (hown7.lt i hi).1)⟩
        rw [show k + 16 = 8 + k + 8 from by omega]
        exact hown8
      clear hown8 hg8 hown7 hat5 G5
      go_wp2
      go_ret
      exact ⟨_, rfl, R.1, R.2⟩

end Go.Proofs.YtbanfbpfapjfcaaGreatDoor
namespace Go.Proofs.YtbanfbpfapjfcaaGreatDoor
open Go.RowKit
set_option maxRecDepth 100000

theorem run_slice_lo {P : Program} (t e : TypeId) (i : TypeInfo) (ht : P.underlying t = some (.slice e)) (hi : P.info? e = some i) (hs : i.size = 1) (b off len cap l h : Nat) (y z : Int) (hy : y = (l : Int)) (hz : z = (h : Int)) (hl : l ≤ h) (hh : h ≤ cap) (hlc : l < cap) (w : World) :
    (Instr.sliceAt t (.slice (some ⟨b, off, none⟩) len cap) (some (.int .i64 y)) (some (.int .i64 z)) none).run P w = .ok (.slice (some ⟨b, off + l, none⟩) (h - l) (cap - l)) w := by
  subst hy hz
  have he : P.elem t = e := by simp [Program.elem, ht]
  have ht' : P.underlying t = some (.slice (P.elem t)) := by rw [he]; exact ht
  have hcl : cap ≠ l := by omega
  rw [run_sliceAt_slice w t _ _ _ _ ht', run_slice_lh w t _ len cap ht' .i64 .i64 (l : Int) (h : Int) (by omega) (by omega) (by omega), he]
  simp [sizeOf, typeInfo, hi, hs, sliced, hcl, Addr.add_lit]

set_option maxHeartbeats 400000 in
theorem ropened_few (key : Int) (x : Int) (ao : Option Addr) (n cap : Nat) (w : World) (hn : n < 16) :
    Calls Tryz.prog 105 #[.int .u64 key, .int .i64 x, .slice ao n cap] w fun e w' => e = .returned (.tuple #[.slice none 0 0, .bool false]) ∧ w = w' := by
  go_enter Tryz.func105, Tryz.ntmps105
  go_wp2
  go_ret2
  exact ⟨rfl, rfl⟩

set_option maxHeartbeats 400000 in
theorem ropened_any (key use : UInt64) (x : Int) (b off : Nat) (zs : List UInt8) (M cap : Nat) (w : World) (hx1 : 1 ≤ x) (hx2 : x ≤ 5) (hu : Hid (x = use.toNat)) (hL : Hid (zs.length = M + 16)) (h200 : M ≤ 200) (hcap : M + 16 ≤ cap) (hcm : cap ≤ 9223372036854775807) (hz : At w (some ⟨b, off, none⟩) zs) :
    Calls Tryz.prog 105 #[.int .u64 (key.toNat : Int), .int .i64 x, .slice (some ⟨b, off, none⟩) (M + 16) cap] w fun e w' =>
      (Pure.opens key use zs = true → ∃ g c, e = .returned (.tuple #[.slice (some ⟨g, 8, none⟩) M c, .bool true]) ∧ At w' (some ⟨g, 8, none⟩) (Pure.plainOf key use zs)) ∧
      (Pure.opens key use zs = false → e = .returned (.tuple #[.slice none 0 0, .bool false])) ∧ w.grownBy w' none := by
  obtain ⟨i0, hif, hz0, hz1, hz2⟩ := info_parts Tryz.info5
  have hsl : ∀ w, (Instr.sliceAt 32 (.slice (some ⟨b, off, none⟩) (M + 16) cap) (some (.int .i64 8)) (some (.int .i64 ((M : Int) + 16 - 8))) none).run Tryz.prog w = .ok (.slice (some ⟨b, off + 8, none⟩) M (cap - 8)) w := by
    intro w
    have h := run_slice_lo (P := Tryz.prog) 32 5 i0 Tryz.underlying32 hif hz1 b off (M + 16) cap 8 (M + 8) 8 ((M : Int) + 16 - 8) (by omega) (by omega) (by omega) (by omega) (by omega) w
    rw [show M + 8 - 8 = M from by omega] at h
    exact h
  have HM : Hid (((zs.drop 8).take M).length = M) := by have h := hL.out; show _ = _; simp; omega
  have HP : Hid ((Pure.plainOf key use zs).length = M) := by have h := hL.out; show _ = _; rw [Pure.plainOf_length, h]; omega
  have HS : Hid ((Pure.sealL key use (Pure.drawOf zs) (Pure.plainOf key use zs)).length = M + 16) := by show _ = _; rw [Pure.sealL_length, HP.out]
  have hl1 : M ≤ 1000 := by omega
  have hl2 : M + 16 ≤ 140737488355328 := by omega
  go_enter Tryz.func105, Tryz.ntmps105
  go_wp2_with fail
  refine (rnumber_any (zs.take 8) 8 _ _ _ (by have h := hL.out; show _ = _; rw [List.length_take]; omega) (by omega) (hz.take 8)).mono ?_
  rintro e w' ⟨rfl, rfl⟩
  go_wp2_with fail
  refine (rsealed_any key use (Pure.drawOf zs) x ((zs.drop 8).take M) M (some ⟨b, off + 8, none⟩) (cap - 8) _ ⟨hx1, hx2⟩ hu HM hl1 (by intro h; cases h) ((hz.drop 8).take _)).mono ?_
  rintro e w1 ⟨o1, rfl, hown1, hg1⟩
  obtain ⟨g, c1, hv, hc1, hc1m, hat1⟩ : ∃ g c, o1 = .slice (some ⟨g, 0, none⟩) (M + 16) c ∧ M + 16 ≤ c ∧ c ≤ maxLen ∧ At w1 (some ⟨g, 0, none⟩) (Pure.sealL key use (Pure.drawOf zs) ((zs.drop 8).take M)) := by
    obtain ⟨ao, cap, hv, h1, h2, _, h4⟩ := own_at2 hown1
    rcases hown1.2 with ⟨hv', _⟩ | ⟨g, cap', cur, hv', _⟩
    · rw [hv] at hv'; simp at hv'
    · rw [hv] at hv'; simp at hv'
      obtain ⟨rfl, rfl⟩ := hv'
      exact ⟨g, cap, hv, h1, h2, h4⟩
  subst hv
  have hsl2 : ∀ w, (Instr.sliceAt 32 (.slice (some ⟨g, 0, none⟩) (M + 16) c1) (some (.int .i64 8)) (some (.int .i64 ((M : Int) + 16 - 8))) none).run Tryz.prog w = .ok (.slice (some ⟨g, 8, none⟩) M (c1 - 8)) w := by
    intro w
    have h := run_slice_lo (P := Tryz.prog) 32 5 i0 Tryz.underlying32 hif hz1 g 0 (M + 16) c1 8 (M + 8) 8 ((M : Int) + 16 - 8) (by omega) (by omega) (by omega) (by omega) (by omega) w
    rw [show M + 8 - 8 = M from by omega, Nat.zero_add] at h
    exact h
  have hat2 : At w1 (some ⟨g, 8, none⟩) (Pure.plainOf key use zs) := by
    have h := (hat1.drop 8).take M
    have e : ((Pure.sealL key use (Pure.drawOf zs) ((zs.drop 8).take M)).drop 8).take M = Pure.plainOf key use zs := by
      have hh := Pure.mid_of key use (Pure.drawOf zs) ((zs.drop 8).take M)
      rw [HM.out] at hh
      rw [hh]
      unfold Pure.plainOf
      rw [hL.out, Nat.add_sub_cancel]
    rw [e, Nat.zero_add] at h
    exact h
  clear hown1 hat1 hsl
  go_wp2_with fail
  refine (rsealed_any key use (Pure.drawOf zs) x (Pure.plainOf key use zs) M (some ⟨g, 8, none⟩) (c1 - 8) _ ⟨hx1, hx2⟩ hu HP hl1 (by intro h; cases h) hat2).mono ?_
  rintro e w2 ⟨o2, rfl, hown2, hg2⟩
  obtain ⟨a2, c2, hv, _, _, _, hat3⟩ := own_at2 hown2
  subst hv
  have G2 := gb_trans hg1 hg2
  have hz2' := hz.below G2
  have hat4 := hat2.below hg2
  clear hown2 hg1 hg2 hat2 hsl2
  go_wp2_with fail
  refine (rsame_any (Pure.sealL key use (Pure.drawOf zs) (Pure.plainOf key use zs)) zs (M + 16) (M + 16) _ _ _ _ _ HS hL hl2 hat3 hz2').mono ?_
  rintro e w3 ⟨rfl, hg3⟩
  have G3 := gb_trans G2 hg3
  have hat5 := hat4.below hg3
  clear G2 hg3 hat4 hat3 hz2'
  rw [Pure.seal_again key use zs (by rw [hL.out]; omega)]
  cases ho : Pure.opens key use zs
  all_goals
    have HO := hid ho
    clear ho
    go_wp2
    go_ret2
    first
      | exact ⟨fun h => absurd h (by rw [HO.out]; decide), fun _ => rfl, G3⟩
      | exact ⟨fun _ => ⟨g, c1 - 8, rfl, hat5⟩, fun h => absurd h (by rw [HO.out]; decide), G3⟩

set_option maxHeartbeats 400000 in
theorem rseal_use (key draw x : Int) (v : Value) (w : World) (hx : x < 1 ∨ 5 < x) :
    Calls Tryz.prog 71 #[.int .u64 key, .int .i64 x, .int .u64 draw, v] w fun e w' => e = .returned (.tuple #[.slice none 0 0, .int .i64 1]) ∧ w = w' := by
  rcases hx with hx | hx
  · go_enter Tryz.func71, Tryz.ntmps71
    go_wp2
    go_ret2
    exact ⟨rfl, rfl⟩
  · have h1 : ¬ x < 1 := by omega
    go_enter Tryz.func71, Tryz.ntmps71
    go_wp2
    go_ret2
    exact ⟨rfl, rfl⟩

set_option maxHeartbeats 400000 in
theorem rseal_long (key draw x : Int) (ao : Option Addr) (n cap : Nat) (w : World) (hx1 : 1 ≤ x) (hx2 : x ≤ 5) (hn : 200 < n) :
    Calls Tryz.prog 71 #[.int .u64 key, .int .i64 x, .int .u64 draw, .slice ao n cap] w fun e w' => e = .returned (.tuple #[.slice none 0 0, .int .i64 1]) ∧ w = w' := by
  go_enter Tryz.func71, Tryz.ntmps71
  go_wp2
  go_ret2
  exact ⟨rfl, rfl⟩

set_option maxHeartbeats 400000 in
theorem rseal_ok (key use draw : UInt64) (x : Int) (zs : List UInt8) (n : Nat) (ao : Option Addr) (cap : Nat) (w : World) (hx1 : 1 ≤ x) (hx2 : x ≤ 5) (hu : Hid (x = use.toNat)) (hn : Hid (zs.length = n)) (hl : n ≤ 200) (hnc : Hid (ao = none → cap = 0)) (hz : At w ao zs) :
    Calls Tryz.prog 71 #[.int .u64 (key.toNat : Int), .int .i64 x, .int .u64 (draw.toNat : Int), .slice ao n cap] w fun e w' =>
      ∃ a c, e = .returned (.tuple #[.slice a (n + 16) c, .int .i64 0]) ∧ At w' a (Pure.sealL key use draw zs) ∧ w.grownBy w' none := by
  have hl1 : n ≤ 1000 := by omega
  go_enter Tryz.func71, Tryz.ntmps71
  go_wp2_with fail
  refine (rsealed_any key use draw x zs n ao cap _ ⟨hx1, hx2⟩ hu hn hl1 hnc.out hz).mono ?_
  rintro e w1 ⟨o1, rfl, hown1, hg1⟩
  obtain ⟨a1, c1, hv, _, _, _, hat⟩ := own_at2 hown1
  subst hv
  clear hown1
  go_wp2
  go_ret2
  exact ⟨a1, c1, rfl, hat, hg1⟩

set_option maxHeartbeats 400000 in
theorem runseal_use (key x : Int) (v : Value) (w : World) (hx : x < 1 ∨ 5 < x) :
    Calls Tryz.prog 73 #[.int .u64 key, .int .i64 x, v] w fun e w' => e = .returned (.tuple #[.slice none 0 0, .int .i64 1]) ∧ w = w' := by
  rcases hx with hx | hx
  · go_enter Tryz.func73, Tryz.ntmps73
    go_wp2
    go_ret2
    exact ⟨rfl, rfl⟩
  · have h1 : ¬ x < 1 := by omega
    go_enter Tryz.func73, Tryz.ntmps73
    go_wp2
    go_ret2
    exact ⟨rfl, rfl⟩

set_option maxHeartbeats 400000 in
theorem runseal_size (key x : Int) (ao : Option Addr) (n cap : Nat) (w : World) (hx1 : 1 ≤ x) (hx2 : x ≤ 5) (hn : n < 16 ∨ 216 < n) :
    Calls Tryz.prog 73 #[.int .u64 key, .int .i64 x, .slice ao n cap] w fun e w' => e = .returned (.tuple #[.slice none 0 0, .int .i64 3]) ∧ w = w' := by
  rcases hn with hn | hn
  · have h2 : ¬ 216 < n := by omega
    go_enter Tryz.func73, Tryz.ntmps73
    go_wp2_with (go_at_call 105; refine (ropened_few key x ao n cap _ hn).mono ?_; rintro e w' ⟨rfl, rfl⟩)
    go_ret2
    exact ⟨rfl, rfl⟩
  · go_enter Tryz.func73, Tryz.ntmps73
    go_wp2
    go_ret2
    exact ⟨rfl, rfl⟩

set_option maxHeartbeats 400000 in
theorem runseal_any (key use : UInt64) (x : Int) (b off : Nat) (zs : List UInt8) (M cap : Nat) (w : World) (hx1 : 1 ≤ x) (hx2 : x ≤ 5) (hu : Hid (x = use.toNat)) (hL : Hid (zs.length = M + 16)) (h200 : M ≤ 200) (hcap : M + 16 ≤ cap) (hcm : cap ≤ 9223372036854775807) (hz : At w (some ⟨b, off, none⟩) zs) :
    Calls Tryz.prog 73 #[.int .u64 (key.toNat : Int), .int .i64 x, .slice (some ⟨b, off, none⟩) (M + 16) cap] w fun e w' =>
      (Pure.opens key use zs = true → ∃ a c, e = .returned (.tuple #[.slice a M c, .int .i64 0]) ∧ At w' a (Pure.plainOf key use zs)) ∧
      (Pure.opens key use zs = false → e = .returned (.tuple #[.slice none 0 0, .int .i64 3])) ∧ w.grownBy w' none := by
  go_enter Tryz.func73, Tryz.ntmps73
  go_wp2_with fail
  refine (ropened_any key use x b off zs M cap _ hx1 hx2 hu hL h200 hcap hcm hz).mono ?_
  rintro e w1 ⟨h1, h2, h3⟩
  cases ho : Pure.opens key use zs
  · obtain rfl := h2 ho
    have HO := hid ho
    clear h1 h2 ho
    go_wp2
    go_ret2
    exact ⟨fun h => absurd h (by rw [HO.out]; decide), fun _ => rfl, h3⟩
  · obtain ⟨g, c, rfl, hat⟩ := h1 ho
    have HO := hid ho
    clear h1 h2 ho
    go_wp2
    go_ret2
    exact ⟨fun _ => ⟨_, c, rfl, hat⟩, fun h => absurd h (by rw [HO.out]; decide), h3⟩

end Go.Proofs.YtbanfbpfapjfcaaGreatDoor
