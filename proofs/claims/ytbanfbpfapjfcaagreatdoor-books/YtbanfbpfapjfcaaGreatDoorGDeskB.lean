/-
  The document's desk in memory; contract of its find. Conditions: in each statement.
  Contract of the document's New. An append of whole cells as one step of a region that draws. Conditions: in each statement.
  Contract of the document's State. Conditions: in each statement.
-/
import Derived.Test.YtbanfbpfapjfcaaGreatDoorGLaw10
namespace Go.Proofs.YtbanfbpfapjfcaaGreatDoor
open Go.RowKit
set_option maxRecDepth 100000

/-- An entry of the document's book: what came with the last change of the policy, the key number, the two keys. -/
structure RE where
  k : Int
  name : List UInt8
  akey : UInt64
  life : Int
  renew : Int
  expire : Int
  flags : Int
  number : Int
  key : UInt64
  before : UInt64
def RE.cells (e : RE) : List Value := [.int .i64 e.k, .string ⟨e.name.toArray⟩, .int .u64 (e.akey.toNat : Int), .int .i64 e.life, .int .i64 e.renew, .int .i64 e.expire, .int .i64 e.flags, .int .i64 e.number, .int .u64 (e.key.toNat : Int), .int .u64 (e.before.toNat : Int)]
def reCells (l : List RE) : List Value := (l.map RE.cells).flatten
theorem reCells_get (l : List RE) : ∀ (k j : Nat) (hk : k < l.length), j < 10 → (reCells l)[k * 10 + j]? = (l[k]).cells[j]? := by
  induction l with
  | nil => intro k j hk; simp at hk
  | cons x l ih =>
    intro k j hk hj
    have e : reCells (x :: l) = x.cells ++ reCells l := by simp [reCells]
    rw [e]
    cases k with
    | zero => rw [Nat.zero_mul, Nat.zero_add, List.getElem?_append_left (by show j < 10; exact hj)]; rfl
    | succ k =>
      rw [List.getElem?_append_right (by show 10 ≤ (k + 1) * 10 + j; omega), show (k + 1) * 10 + j - x.cells.length = k * 10 + j from by show (k + 1) * 10 + j - 10 = k * 10 + j; omega]
      exact ih k j (by simpa using hk) hj

/-- The document's desk lies in the block pb: its skew, the book, the proofs, the draws; each in rows of its own, from base on. -/
structure RDesk (w : World) (base pb : Nat) (skew : Int) (bv pv dv : Value) (es : List RE) (ds : List UInt8) : Prop where
  blk : Blk w pb #[.int .i64 skew, bv, pv, dv]
  book : w.ownsRow base 230 10 bv es.length (reCells es)
  draws : w.ownsRow base 5 1 dv ds.length (ds.map U8)
  here : base ≤ pb
  bne : bv.ownBlock ≠ some pb
  dne : dv.ownBlock ≠ some pb
  apart : bv.ownBlock = none ∨ bv.ownBlock ≠ dv.ownBlock
theorem RDesk.grown {w w' : World} {base pb : Nat} {skew : Int} {bv pv dv : Value} {es : List RE} {ds : List UInt8} (h : RDesk w base pb skew bv pv dv es ds) (k : w.grownBy w' none) : RDesk w' base pb skew bv pv dv es ds :=
  ⟨h.blk.grown k (by simp), h.book.kept k (Classical.em _), h.draws.kept k (Classical.em _), h.here, h.bne, h.dne, h.apart⟩

/-- Where the entry of a name is; -1: there is none. -/
def findE (es : List RE) (l : List UInt8) : Int :=
  match es.findIdx? (fun e => e.name == l) with
  | some i => (i : Int)
  | none => -1
theorem findE_some {es : List RE} {l : List UInt8} {k : Nat} (hk : k < es.length) (h : es[k].name = l) (hb : ∀ j (hj : j < k), (es[j]'(by omega)).name ≠ l) : findE es l = (k : Int) := by
  have : es.findIdx? (fun e => e.name == l) = some k := by
    rw [List.findIdx?_eq_some_iff_getElem]
    exact ⟨hk, by simp [h], fun j hj => by simpa using hb j hj⟩
  rw [findE, this]
theorem findE_none {es : List RE} {l : List UInt8} (hb : ∀ j (hj : j < es.length), es[j].name ≠ l) : findE es l = -1 := by
  have : es.findIdx? (fun e => e.name == l) = none := by
    rw [List.findIdx?_eq_none_iff]
    intro x hx
    obtain ⟨j, hj, rfl⟩ := List.mem_iff_getElem.1 hx
    simpa using hb j hj
  rw [findE, this]
theorem str_eq {a b : List UInt8} {S T : ByteArray} (hS : S = ⟨a.toArray⟩) (hT : T = ⟨b.toArray⟩) : (S.toList == T.toList) = (a == b) := by
  subst hS hT
  rw [ByteArray.toList_mk, ByteArray.toList_mk]

set_option maxHeartbeats 1000000 in
theorem rfind_any (base pb : Nat) (skew : Int) (bv pv dv : Value) (es : List RE) (ds l : List UInt8) (m : Nat) (S : ByteArray) (w : World) (hD : RDesk w base pb skew bv pv dv es ds) (hm : Hid (es.length = m)) (hml : m ≤ 1000) (hS : Hid (S = ⟨l.toArray⟩)) :
    Calls Tryz.prog 108 #[.pointer (some ⟨pb, 0, none⟩), .string S] w fun e w' => e = .returned (.int .i64 (findE es l)) ∧ w.grownBy w' none := by
  obtain ⟨ab, cb, hbv⟩ := own_shape hD.book
  rw [hm.out] at hbv
  subst hbv
  have c1 := hD.blk.cell 1
  simp only [List.getElem?_toArray, List.getElem?_cons_zero, List.getElem?_cons_succ] at c1
  go_enter Tryz.func108, Tryz.ntmps108
  go_wp2
  go_loopw [5] (fun i wr => ∃ k : Nat, k ≤ m ∧ i = .int .i64 k ∧ Hid (∀ j (hj : j < es.length), j < k → es[j].name ≠ l) ∧ w.grownBy wr none) (fun i _ => m - (intOf i).toNat)
  case atStart => exact ⟨0, Nat.zero_le _, rfl, hid (fun j _ hj => by omega), World.grownBy.refl _ _⟩
  case round =>
    obtain ⟨k, hk, rfl, HN, hgr⟩ := hrel
    have c1r := hgr.cell c1 (by simp)
    by_cases hlt : k < m
    · have hlt' : k < es.length := by rw [hm.out]; exact hlt
      have hkI : (k : Int) < (m : Int) := by omega
      have hk0 : (0 : Int) ≤ (k : Int) := by omega
      obtain ⟨g0, hab⟩ : ∃ g0, ab = some ⟨g0, 0, none⟩ := by
        rcases hD.book.2 with ⟨h, h2⟩ | ⟨g, cap, cur, h, _⟩
        · omega
        · simp at h; exact ⟨g, h.1⟩
      subst hab
      have hcell : wr.cell? ⟨g0, k * 10 + 1, none⟩ = some (.string ⟨es[k].name.toArray⟩) := by
        have hbk := (hD.grown hgr).book
        rw [hm.out] at hbk
        rw [hbk.cellAt (k * 10 + 1) (by omega), reCells_get es k 1 hlt' (by omega)]
        rfl
      obtain ⟨T, hT⟩ : ∃ T : ByteArray, T = ⟨es[k].name.toArray⟩ := ⟨_, rfl⟩
      rw [← hT] at hcell
      have hq := str_eq hT hS.out
      by_cases he : es[k].name = l
      · have hq1 : (T.toList == S.toList) = true := by rw [hq, he]; simp
        have HF : Hid (findE es l = (k : Int)) := findE_some hlt' he (fun j hj => HN.out j (by omega) hj)
        clear he hq hT hD
        go_wp2
        go_ret
        exact ⟨ret_i64 (by rw [HF.out]), hgr⟩
      · have hq1 : (T.toList == S.toList) = false := by rw [hq]; simpa using he
        have HN2 : Hid (∀ j (hj : j < es.length), j < k + 1 → es[j].name ≠ l) := by
          intro j hj hj2
          by_cases hjk : j < k
          · exact HN.out j hj hjk
          · have : j = k := by omega
            subst this
            exact he
        clear he hq hT hD
        go_wp2
        go_roundw
        case rel => exact ⟨k + 1, by omega, by go_num, HN2, hgr⟩
        case measure => simp [intOf]; omega
    · have hkm : k = m := by omega
      subst hkm
      have hkI : ¬ (k : Int) < (k : Int) := by omega
      have HF : Hid (findE es l = -1) := findE_none (fun j hj => HN.out j hj (by rw [← hm.out]; exact hj))
      clear hD
      go_wp2
      go_ret
      exact ⟨ret_i64 (by rw [HF.out]), hgr⟩
end Go.Proofs.YtbanfbpfapjfcaaGreatDoor
namespace Go.Proofs.YtbanfbpfapjfcaaGreatDoor
open Go.RowKit
set_option maxRecDepth 100000

theorem step_append_blk {P : Program} {ops : Array Oper} {o : Oper} {a : Act} {w : World} {K : Act → World → Prop} {Q : Exit → Act → World → Prop} {E : Prop}
    (hg : o.guard = none) (s x : Operand) (t : TypeId) (hop : o.op = Op.call { callee := Callee.builtin Builtin.append, args := #[s, x], argTypes := #[t, t] })
    (base : Nat) (e : TypeId) (i : TypeInfo) (z : Value) (size bytes : Nat) (ht : P.underlying t = some (.slice e)) (hi : P.info? e = some i) (hz : i.zero = some z) (hsize : i.size = size) (hby : i.bytes = bytes) (hzs : z.cells.size = size) (hsz : 0 < size)
    (v : Value) (n : Nat) (xs : List Value) (hs : a.eval s = v) (hown : w.ownsRow base e size v n xs) (ad : Addr) (m c : Nat) (news : List Value) (hx : a.eval x = .slice (some ad) m c) (hl : news.length = m * size) (hnews : ∀ j u, news[j]? = some u → w.cell? (ad.add j) = some u) (h1 : ∀ u ∈ news, u.oneCell' = true) (hm : 0 < m)
    (h63 : n + m ≤ maxLen) (hbytes : (n + m) * bytes ≤ 140737488355328) (hbase : base ≤ w.heap.size)
    (hK : ∀ v' w', w'.ownsRow base e size v' (n + m) (xs ++ news) → w.grownBy w' v.ownBlock → Hid (v'.ownBlock = v.ownBlock ∨ v'.ownBlock = some w.heap.size) → K (a.put o.dst v') w') :
    if Region.wanted o (yielded ops a.tmps) = true then Oper.wp P o a w K Q else E := by
  have hw : Region.wanted o (yielded ops a.tmps) = true := by simp [Region.wanted, hg]
  rw [if_pos hw]
  obtain ⟨v', w', hrun, r1, r2, r3⟩ := run_append_blk (P := P) w base t o.type e i z size bytes ht hi hz hsize hby hzs hsz v n xs hown ad m c news hl hnews h1 hm h63 hbytes hbase
  unfold Oper.wp
  simp [execOp, hop, resolve, invoke, builtin, hs, hx, hrun, Result.andThen]
  exact hK v' w' r1 r2 r3

set_option maxHeartbeats 1000000 in
theorem rNew_bad (skew : Int) (v : Value) (w : World) (h : skew < 0 ∨ 300 < skew) :
    Calls Tryz.prog 75 #[.int .i64 skew, v] w fun e w' => e = .returned (.tuple #[.pointer none, .int .i64 1]) ∧ w = w' := by
  by_cases h1 : skew < 0
  · go_enter Tryz.func75, Tryz.ntmps75
    go_wp2
    go_ret2
    exact ⟨rfl, rfl⟩
  · have h2 : 300 < skew := by omega
    go_enter Tryz.func75, Tryz.ntmps75
    go_wp2
    go_ret2
    exact ⟨rfl, rfl⟩

set_option maxHeartbeats 1000000 in
theorem rNew_ok (base : Nat) (skew : Int) (zs : List UInt8) (n : Nat) (ao : Option Addr) (cap : Nat) (w : World) (h0 : 0 ≤ skew) (h1 : skew ≤ 300) (hn : Hid (zs.length = n)) (hl : n ≤ 140737488355328) (hnc : Hid (ao = none → cap = 0)) (hat : At w ao zs) (hbase : base ≤ w.heap.size) :
    Calls Tryz.prog 75 #[.int .i64 skew, .slice ao n cap] w fun e w' => ∃ dv, e = .returned (.tuple #[.pointer (some ⟨w.heap.size, 0, none⟩), .int .i64 0]) ∧ RDesk w' base w.heap.size skew (.slice none 0 0) (.slice none 0 0) dv [] zs ∧ w.grownBy w' none := by
  obtain ⟨i0, hif, hz0, hz1, hz2⟩ := info_parts Tryz.info5
  have G0 : w.grownBy (w.alloc (.cells #[.int .i64 skew, .slice none 0 0, .slice none 0 0, .slice none 0 0] 224)) none := World.grownBy_alloc w _ none
  have hB0 := Blk.new w #[.int .i64 skew, .slice none 0 0, .slice none 0 0, .slice none 0 0] 224
  have hat0 := hat.below G0
  go_enter Tryz.func75, Tryz.ntmps75
  go_wp2_with (at_builtin; refine wpList_append_at _ rfl _ _ 32 rfl (w.heap.size + 1) 5 i0 Tryz.underlying32 hif hz0 hz1 hz2 _ 0 [] rfl (World.ownsRow_nil _ _ _ _) ao n cap zs rfl hn.out hnc.out hat0 (by omega) (by simp) ?_)
  intro v1 w1 hown1 hg1 _
  have hB1 := hB0.grown hg1 (by simp [Value.ownBlock])
  have G1 := gb_trans G0 (row := none) (by simpa [Value.ownBlock] using hg1)
  have hown1' : w1.ownsRow (w.heap.size + 1) 5 1 v1 n (zs.map U8) := by simpa using hown1
  obtain ⟨a1, c1, rfl, _, _, _, _⟩ := own_at2 hown1'
  have p3 := hB1.cell 3
  have p3f := hB1.frozen 3
  simp only [List.getElem?_toArray, List.getElem?_cons_zero, List.getElem?_cons_succ] at p3
  have hne : (Value.slice a1 n c1).ownBlock ≠ some w.heap.size := fun e => by have := (hown1'.lt _ e).1; omega
  clear hown1 hg1 hB0 G0 hat0 hat
  go_wp2
  go_ret2
  refine ⟨.slice a1 n c1, rfl, ⟨?_, World.ownsRow_nil _ _ _ _, ?_, hbase, by simp [Value.ownBlock], hne, .inl rfl⟩, gb_store G1 (Nat.le_refl _)⟩
  · have := hB1.set 3 (.slice a1 n c1)
    simpa using this
  · rw [hn.out]
    exact own_down (ownsRow_setCell_below hown1' (by show w.heap.size < w.heap.size + 1; omega) _) (by omega)
end Go.Proofs.YtbanfbpfapjfcaaGreatDoor
namespace Go.Proofs.YtbanfbpfapjfcaaGreatDoor
open Go.RowKit
set_option maxRecDepth 100000

theorem Tryz.infoStr : (Tryz.prog.info? 9).map (fun i => (i.zero, i.size, i.bytes)) = some (some (.string ⟨#[]⟩), 1, 16) := by kernel_rfl
theorem Tryz.infoInt : (Tryz.prog.info? 3).map (fun i => (i.zero, i.size, i.bytes)) = some (some (.int .i64 0), 1, 8) := by kernel_rfl
theorem stateLoad {w : World} {g : Nat} {x y z u : Value} (h : Blk w g #[x, y, z, u]) : (loadVar 53 ⟨g, 0, none⟩).run Tryz.prog w = .ok (.agg #[x, y, z, u]) w :=
  h.load 53 _ Tryz.underlying53 rfl (by kernel_rfl)
theorem results_cell1 {fn : Func} {a : Tmp} {ty : TypeId} (h : fn.results = #[.cell a ty]) (tmps : Array Value) (P : Program) (w : World) (b : Nat) (hp : tmps.getD a undef = .pointer (some ⟨b, 0, none⟩)) (x : Value) (hl : (loadVar ty ⟨b, 0, none⟩).run P w = .ok x w) :
    (results fn tmps).run P w = .ok x w := by
  have hp' : tmps[a]?.getD undef = .pointer (some ⟨b, 0, none⟩) := by simpa using hp
  simp [results, h, hp', hl, asAddr]
theorem blk_set4 {w : World} {g : Nat} {a b c d : Value} (h : Blk w g #[a, b, c, d]) (x y z u : Value) : Blk ((((w.setCell ⟨g, 0, none⟩ x).setCell ⟨g, 1, none⟩ y).setCell ⟨g, 2, none⟩ z).setCell ⟨g, 3, none⟩ u) g #[x, y, z, u] := by
  simpa using (((h.set 0 x).set 1 y).set 2 z).set 3 u
theorem gb_set4 {a b : World} {g : Nat} {x y z u : Value} (h : a.grownBy b none) (hg : a.heap.size ≤ g) : a.grownBy ((((b.setCell ⟨g, 0, none⟩ x).setCell ⟨g, 1, none⟩ y).setCell ⟨g, 2, none⟩ z).setCell ⟨g, 3, none⟩ u) none :=
  gb_store (gb_store (gb_store (gb_store h hg) hg) hg) hg

def nameV (e : RE) : Value := .string ⟨e.name.toArray⟩
def numV (e : RE) : Value := .int .i64 e.number
abbrev zeroState : Array Value := #[.slice none 0 0, .slice none 0 0, .int .i64 0, .int .i64 0]

set_option maxHeartbeats 4000000 in
theorem rState_any (base pb : Nat) (skew : Int) (bv dv : Value) (pa : Option Addr) (pn pc : Nat) (es : List RE) (ds : List UInt8) (m dn : Nat) (w : World) (hD : RDesk w base pb skew bv (.slice pa pn pc) dv es ds) (hm : Hid (es.length = m)) (hml : m ≤ 1000) (hdn : Hid (ds.length = dn)) :
    Calls Tryz.prog 80 #[.pointer (some ⟨pb, 0, none⟩)] w fun e w' => ∃ nv uv, e = .returned (.agg #[nv, uv, .int .i64 (pn : Int), .int .i64 (dn : Int)]) ∧ w'.ownsRow w.heap.size 9 1 nv m (es.map nameV) ∧ w'.ownsRow w.heap.size 3 1 uv m (es.map numV) ∧ w.grownBy w' none := by
  obtain ⟨is, his, hs0, hs1, hs2⟩ := info_parts Tryz.infoStr
  obtain ⟨ii, hii, hi0, hi1, hi2⟩ := info_parts Tryz.infoInt
  obtain ⟨ab, cb, hbv⟩ := own_shape hD.book
  rw [hm.out] at hbv
  subst hbv
  obtain ⟨ad, cd, hdv⟩ := own_shape hD.draws
  rw [hdn.out] at hdv
  subst hdv
  have G0 : w.grownBy (w.alloc (.cells zeroState 53)) none := World.grownBy_alloc w _ none
  have hD0 := hD.grown G0
  have c1 := hD0.blk.cell 1
  have c2 := hD0.blk.cell 2
  have c3 := hD0.blk.cell 3
  simp only [List.getElem?_toArray, List.getElem?_cons_zero, List.getElem?_cons_succ] at c1 c2 c3
  have hD1 := hD0.grown (World.grownBy_alloc (w.alloc (.cells zeroState 53)) (.cells zeroState 53) none)
  have d2 := hD1.blk.cell 2
  have d3 := hD1.blk.cell 3
  simp only [List.getElem?_toArray, List.getElem?_cons_zero, List.getElem?_cons_succ] at d2 d3
  go_enter Tryz.func80, Tryz.ntmps80
  go_wp2_with fail
  go_region
  clear c1 c2 c3 d2 d3 hD1 hD0
  have Gs : w.grownBy ((w.alloc (.cells zeroState 53)).alloc (.cells #[.slice none 0 0, .slice none 0 0, .int .i64 (pn : Int), .int .i64 (dn : Int)] 53)).drew none := gb_drew (gb_alloc G0 _)
  go_wp2_with fail
  go_loopw [4] (fun i wr => ∃ (k : Nat) (nv uv : Value), k ≤ m ∧ i = .int .i64 k ∧ wr.ownsRow (w.heap.size + 2) 9 1 nv k ((es.take k).map nameV) ∧ wr.ownsRow (w.heap.size + 2) 3 1 uv k ((es.take k).map numV) ∧ Blk wr (w.heap.size + 1) #[nv, uv, .int .i64 (pn : Int), .int .i64 (dn : Int)] ∧ Blk wr w.heap.size zeroState ∧ Hid (nv.ownBlock = none ∨ nv.ownBlock ≠ uv.ownBlock) ∧ w.grownBy wr none ∧ w.heap.size + 2 ≤ wr.heap.size) (fun i _ => m - (intOf i).toNat)
  case atStart =>
    refine ⟨0, .slice none 0 0, .slice none 0 0, Nat.zero_le _, rfl, World.ownsRow_nil _ _ _ _, World.ownsRow_nil _ _ _ _, ?_, ((Blk.new w _ _).alloc _).drew, hid (.inl rfl), Gs, by show _ ≤ ((w.alloc _).alloc _).heap.size; simp⟩
    have := (Blk.new (w.alloc (.cells zeroState 53)) #[.slice none 0 0, .slice none 0 0, .int .i64 (pn : Int), .int .i64 (dn : Int)] 53).drew
    rw [World.size_alloc] at this
    exact this
  case round =>
    obtain ⟨k, nv, uv, hk, rfl, hownN, hownU, hS, hR, HAp, hgr, hbs⟩ := hrel
    obtain ⟨an, cn, rfl⟩ := own_shape hownN
    obtain ⟨au, cu, rfl⟩ := own_shape hownU
    have hDr := hD.grown hgr
    have c1 := hDr.blk.cell 1
    have q0 := hS.cell 0
    have q1 := hS.cell 1
    have q2 := hS.cell 2
    have q3 := hS.cell 3
    simp only [List.getElem?_toArray, List.getElem?_cons_zero, List.getElem?_cons_succ] at c1 q0 q1 q2 q3
    by_cases hlt : k < m
    · have hlt' : k < es.length := by rw [hm.out]; exact hlt
      have hkI : (k : Int) < (m : Int) := by omega
      have hkN : k < m := hlt
      have hk0 : (0 : Int) ≤ (k : Int) := by omega
      obtain ⟨g0, hab⟩ : ∃ g0, ab = some ⟨g0, 0, none⟩ := by
        rcases hD.book.2 with ⟨h, h2⟩ | ⟨g, cap, cur, h, _⟩
        · omega
        · simp at h; exact ⟨g, h.1⟩
      subst hab
      have hbk := hDr.book
      rw [hm.out] at hbk
      have e1 : wr.cell? ⟨g0, k * 10 + 1, none⟩ = some (nameV es[k]) := by
        rw [hbk.cellAt (k * 10 + 1) (by omega), reCells_get es k 1 hlt' (by omega)]; rfl
      have e7f : ∀ wx, w.grownBy wx none → wx.cell? ⟨g0, k * 10 + 7, none⟩ = some (numV es[k]) := fun wx hx => by
        have hbx := (hD.grown hx).book
        rw [hm.out] at hbx
        rw [hbx.cellAt (k * 10 + 7) (by omega), reCells_get es k 7 hlt' (by omega)]; rfl
      have c1f : ∀ wx, w.grownBy wx none → wx.cell? ⟨pb, 1, none⟩ = some (.slice (some ⟨g0, 0, none⟩) m cb) := fun wx hx => by
        have := (hD.grown hx).blk.cell 1
        simpa using this
      have HT : Hid (es.take (k + 1) = es.take k ++ [es[k]]) := List.take_succ_eq_append_getElem hlt'
      obtain ⟨T, hT⟩ : ∃ T : ByteArray, nameV es[k] = .string T := ⟨_, rfl⟩
      obtain ⟨nu, hnu⟩ : ∃ nu : Int, numV es[k] = .int .i64 nu := ⟨_, rfl⟩
      have HTN : Hid ((es.take (k + 1)).map nameV = (es.take k).map nameV ++ [.string T]) := by show _ = _; rw [HT.out, List.map_append, ← hT]; rfl
      have HTU : Hid ((es.take (k + 1)).map numV = (es.take k).map numV ++ [.int .i64 nu]) := by show _ = _; rw [HT.out, List.map_append, ← hnu]; rfl
      rw [hT] at e1
      rw [hnu] at e7f
      have hll1 : k + 1 ≤ maxLen := by unfold maxLen; omega
      have hlls : (k + 1) * 16 ≤ 140737488355328 := by omega
      have hllu : (k + 1) * 8 ≤ 140737488355328 := by omega
      have e1a := (World.grownBy_alloc wr (.cells #[.string T] 9) none).cell e1 (by simp)
      have q0a := (World.grownBy_alloc wr (.cells #[.string T] 9) none).cell q0 (by simp)
      have hneN : ∀ g, g < w.heap.size + 2 → some g ≠ (Value.slice an k cn).ownBlock := fun g hg e => by have := (hownN.lt g e.symm).1; omega
      clear hT hnu hbk HT
      go_upto_region 5 with fail
      go_cut [4] (fun i wx => i = .int .i64 k ∧ ∃ nv' : Value, wx.ownsRow (w.heap.size + 2) 9 1 nv' (k + 1) ((es.take (k + 1)).map nameV) ∧ wx.ownsRow (w.heap.size + 2) 3 1 (.slice au k cu) k ((es.take k).map numV) ∧ Blk wx (w.heap.size + 1) #[nv', .slice au k cu, .int .i64 (pn : Int), .int .i64 (dn : Int)] ∧ Blk wx w.heap.size zeroState ∧ Hid (nv'.ownBlock = none ∨ nv'.ownBlock ≠ (Value.slice au k cu).ownBlock) ∧ w.grownBy wx none ∧ w.heap.size + 2 ≤ wx.heap.size)
      case first =>
        have RR : ∀ a6 c6 w6, w6.ownsRow (w.heap.size + 2) 9 1 (.slice a6 (k + 1) c6) (k + 1) ((es.take k).map nameV ++ [.string T]) → (wr.alloc (.cells #[.string T] 9)).grownBy w6 (Value.slice an k cn).ownBlock → ((Value.slice a6 (k + 1) c6).ownBlock = (Value.slice an k cn).ownBlock ∨ (Value.slice a6 (k + 1) c6).ownBlock = some (wr.heap.size + 1)) →
            ∃ nv' : Value, (w6.setCell ⟨w.heap.size + 1, 0, none⟩ (.slice a6 (k + 1) c6)).ownsRow (w.heap.size + 2) 9 1 nv' (k + 1) ((es.take (k + 1)).map nameV) ∧ (w6.setCell ⟨w.heap.size + 1, 0, none⟩ (.slice a6 (k + 1) c6)).ownsRow (w.heap.size + 2) 3 1 (.slice au k cu) k ((es.take k).map numV) ∧ Blk (w6.setCell ⟨w.heap.size + 1, 0, none⟩ (.slice a6 (k + 1) c6)) (w.heap.size + 1) #[nv', .slice au k cu, .int .i64 (pn : Int), .int .i64 (dn : Int)] ∧ Blk (w6.setCell ⟨w.heap.size + 1, 0, none⟩ (.slice a6 (k + 1) c6)) w.heap.size zeroState ∧ Hid (nv'.ownBlock = none ∨ nv'.ownBlock ≠ (Value.slice au k cu).ownBlock) ∧ w.grownBy (w6.setCell ⟨w.heap.size + 1, 0, none⟩ (.slice a6 (k + 1) c6)) none ∧ w.heap.size + 2 ≤ (w6.setCell ⟨w.heap.size + 1, 0, none⟩ (.slice a6 (k + 1) c6)).heap.size := by
          intro a6 c6 w6 hown6 hg6 hblk
          have hS6 := (hS.alloc (.cells #[.string T] 9)).grown hg6 (hneN _ (by omega))
          have hR6 := (hR.alloc (.cells #[.string T] 9)).grown hg6 (hneN _ (by omega))
          have hs6 := hg6.size
          rw [World.size_alloc] at hs6
          refine ⟨.slice a6 (k + 1) c6, ownsRow_setCell_below (by rw [HTN.out]; exact hown6) (by show w.heap.size + 1 < w.heap.size + 2; omega) _, ownsRow_setCell_below ((hownU.alloc _).kept hg6 ?_) (by show w.heap.size + 1 < w.heap.size + 2; omega) _, by simpa using hS6.set 0 (.slice a6 (k + 1) c6), hR6.other _ _ (by show w.heap.size ≠ w.heap.size + 1; omega), ?_, gb_store (gb_row (gb_alloc hgr _) hg6 (fun i hi => by have := (hownN.lt i hi).1; omega)) (by omega), by rw [World.size_setCell]; omega⟩
          · rcases HAp.out with h | h
            · rw [h]; exact Classical.em _
            · exact .inr (fun e => h e.symm)
          · rcases hblk with h | h
            · rw [h]; exact HAp.out
            · refine .inr ?_
              rw [h]
              intro e
              have := (hownU.lt _ e.symm).2
              omega
        go_wp2_with fail
        go_region_law (first | (refine step_append_blk rfl _ _ 51 rfl (w.heap.size + 2) 9 is _ 1 16 Tryz.underlying51 his hs0 hs1 hs2 rfl (by decide) (.slice an k cn) k _ ?s1 (hownN.alloc _) ⟨wr.heap.size, 0, none⟩ 1 1 [.string T] ?s2 rfl ?s3 ?s4 (by omega) hll1 hlls ?s5 ?_; (case s1 => first | rfl | simp [Act.eval, Act.put]); (case s2 => first | rfl | simp [Act.eval, Act.put]); (case s3 => exact cells_new wr _ _); (case s4 => intro u hu; simp at hu; rcases hu with rfl; rfl); (case s5 => simp; omega); intro v6 w6 hown6 hg6 hblk6; obtain ⟨a6, c6, hv6⟩ := own_shape hown6; subst hv6; have hg6' : (wr.alloc (.cells #[.string T] 9)).grownBy w6 (Value.slice an k cn).ownBlock := ⟨hg6.os, hg6.tape, hg6.output, hg6.size, hg6.block⟩; have hS6 := (hS.alloc (.cells #[.string T] 9)).grown hg6' (hneN _ (by omega)); have z0 := hS6.cell 0; have z0f := hS6.frozen 0; simp only [List.getElem?_toArray, List.getElem?_cons_zero] at z0; have R6 := hid (RR a6 c6 w6 hown6 hg6' (by simpa using hblk6.out))))
        all_goals
          go_wp2_with fail
          go_meet
          case rel => exact ⟨rfl, R6.out⟩
      case rest =>
        obtain ⟨rfl, nv', hownN', hownU', hS', hR', HAp', hgr', hbs'⟩ := hcut
        obtain ⟨an', cn', rfl⟩ := own_shape hownN'
        have e7 := e7f _ hgr'
        have c1' := c1f _ hgr'
        have e7a := (World.grownBy_alloc wc (.cells #[.int .i64 nu] 3) none).cell e7 (by simp)
        have x1 := hS'.cell 1
        simp only [List.getElem?_toArray, List.getElem?_cons_zero, List.getElem?_cons_succ] at x1
        have x1a := (World.grownBy_alloc wc (.cells #[.int .i64 nu] 3) none).cell x1 (by simp)
        have hneU : ∀ g, g < w.heap.size + 2 → some g ≠ (Value.slice au k cu).ownBlock := fun g hg e => by have := (hownU'.lt g e.symm).1; omega
        clear hownN hownU hS hR HAp hgr hbs hDr e1 e1a q0 q0a q1 q2 q3 c1 hneN e7f c1f
        have RR : ∀ a6 c6 w6, w6.ownsRow (w.heap.size + 2) 3 1 (.slice a6 (k + 1) c6) (k + 1) ((es.take k).map numV ++ [.int .i64 nu]) → (wc.alloc (.cells #[.int .i64 nu] 3)).grownBy w6 (Value.slice au k cu).ownBlock → ((Value.slice a6 (k + 1) c6).ownBlock = (Value.slice au k cu).ownBlock ∨ (Value.slice a6 (k + 1) c6).ownBlock = some (wc.heap.size + 1)) →
            ∃ (nv uv : Value), (w6.setCell ⟨w.heap.size + 1, 1, none⟩ (.slice a6 (k + 1) c6)).ownsRow (w.heap.size + 2) 9 1 nv (k + 1) ((es.take (k + 1)).map nameV) ∧ (w6.setCell ⟨w.heap.size + 1, 1, none⟩ (.slice a6 (k + 1) c6)).ownsRow (w.heap.size + 2) 3 1 uv (k + 1) ((es.take (k + 1)).map numV) ∧ Blk (w6.setCell ⟨w.heap.size + 1, 1, none⟩ (.slice a6 (k + 1) c6)) (w.heap.size + 1) #[nv, uv, .int .i64 (pn : Int), .int .i64 (dn : Int)] ∧ Blk (w6.setCell ⟨w.heap.size + 1, 1, none⟩ (.slice a6 (k + 1) c6)) w.heap.size zeroState ∧ Hid (nv.ownBlock = none ∨ nv.ownBlock ≠ uv.ownBlock) ∧ w.grownBy (w6.setCell ⟨w.heap.size + 1, 1, none⟩ (.slice a6 (k + 1) c6)) none ∧ w.heap.size + 2 ≤ (w6.setCell ⟨w.heap.size + 1, 1, none⟩ (.slice a6 (k + 1) c6)).heap.size := by
          intro a6 c6 w6 hown6 hg6 hblk
          have hS6 := (hS'.alloc (.cells #[.int .i64 nu] 3)).grown hg6 (hneU _ (by omega))
          have hR6 := (hR'.alloc (.cells #[.int .i64 nu] 3)).grown hg6 (hneU _ (by omega))
          have hs6 := hg6.size
          rw [World.size_alloc] at hs6
          refine ⟨.slice an' (k + 1) cn', .slice a6 (k + 1) c6, ownsRow_setCell_below ((hownN'.alloc _).kept hg6 HAp'.out) (by show w.heap.size + 1 < w.heap.size + 2; omega) _, ownsRow_setCell_below (by rw [HTU.out]; exact hown6) (by show w.heap.size + 1 < w.heap.size + 2; omega) _, by simpa using hS6.set 1 (.slice a6 (k + 1) c6), hR6.other _ _ (by show w.heap.size ≠ w.heap.size + 1; omega), ?_, gb_store (gb_row (gb_alloc hgr' _) hg6 (fun i hi => by have := (hownU'.lt i hi).1; omega)) (by omega), by rw [World.size_setCell]; omega⟩
          rcases hblk with h | h
          · rw [h]; exact HAp'.out
          · rw [h]
            cases hx : (Value.slice an' (k + 1) cn').ownBlock with
            | none => exact .inl rfl
            | some g =>
              refine .inr ?_
              have := (hownN'.lt g hx).2
              simp
              omega
        go_wp2_with fail
        go_region_law (first | (refine step_append_blk rfl _ _ 24 rfl (w.heap.size + 2) 3 ii _ 1 8 Tryz.underlying24 hii hi0 hi1 hi2 rfl (by decide) (.slice au k cu) k _ ?s1 (hownU'.alloc _) ⟨wc.heap.size, 0, none⟩ 1 1 [.int .i64 nu] ?s2 rfl ?s3 ?s4 (by omega) hll1 hllu ?s5 ?_; (case s1 => first | rfl | simp [Act.eval, Act.put]); (case s2 => first | rfl | simp [Act.eval, Act.put]); (case s3 => exact cells_new wc _ _); (case s4 => intro u hu; simp at hu; rcases hu with rfl; rfl); (case s5 => simp; omega); intro v6 w6 hown6 hg6 hblk6; obtain ⟨a6, c6, hv6⟩ := own_shape hown6; subst hv6; have hg6' : (wc.alloc (.cells #[.int .i64 nu] 3)).grownBy w6 (Value.slice au k cu).ownBlock := ⟨hg6.os, hg6.tape, hg6.output, hg6.size, hg6.block⟩; have hS6 := (hS'.alloc (.cells #[.int .i64 nu] 3)).grown hg6' (hneU _ (by omega)); have z1 := hS6.cell 1; have z1f := hS6.frozen 1; simp only [List.getElem?_toArray, List.getElem?_cons_zero, List.getElem?_cons_succ] at z1; have R6 := hid (RR a6 c6 w6 hown6 hg6' (by simpa using hblk6.out))))
        all_goals
          go_wp2
          go_roundw
          case rel =>
            obtain ⟨nv2, uv2, r⟩ := R6.out
            exact ⟨k + 1, nv2, uv2, by omega, by go_num, r⟩
          case measure => simp [intOf]; omega
    · have hkm : k = m := by omega
      subst hkm
      have hkI : ¬ (k : Int) < (k : Int) := by omega
      have hall : es.take k = es := List.take_of_length_le (by rw [hm.out]; exact Nat.le_refl _)
      rw [hall] at hownN hownU
      have r0 := hR.cell 0
      have r1 := hR.cell 1
      have r2 := hR.cell 2
      have r3 := hR.cell 3
      have s0 := hR.frozen 0
      have s1 := hR.frozen 1
      have s2 := hR.frozen 2
      have s3 := hR.frozen 3
      simp only [List.getElem?_toArray, List.getElem?_cons_zero, List.getElem?_cons_succ] at r0 r1 r2 r3
      clear hall hD hDr
      go_wp2
      (try simp only [Exit.inBlock, Exit.then])
      refine bodyPost_ret (results_cell1 rfl _ _ _ w.heap.size rfl _ (stateLoad (blk_set4 hR _ _ _ _))) rfl ?_
      refine ⟨.slice an k cn, .slice au k cu, rfl, own_down (base := w.heap.size + 2) ?_ (by omega), own_down (base := w.heap.size + 2) ?_ (by omega), gb_set4 hgr (Nat.le_refl _)⟩
      · exact ownsRow_setCell_below (ownsRow_setCell_below (ownsRow_setCell_below (ownsRow_setCell_below hownN (by show w.heap.size < w.heap.size + 2; omega) _) (by show w.heap.size < w.heap.size + 2; omega) _) (by show w.heap.size < w.heap.size + 2; omega) _) (by show w.heap.size < w.heap.size + 2; omega) _
      · exact ownsRow_setCell_below (ownsRow_setCell_below (ownsRow_setCell_below (ownsRow_setCell_below hownU (by show w.heap.size < w.heap.size + 2; omega) _) (by show w.heap.size < w.heap.size + 2; omega) _) (by show w.heap.size < w.heap.size + 2; omega) _) (by show w.heap.size < w.heap.size + 2; omega) _
end Go.Proofs.YtbanfbpfapjfcaaGreatDoor
