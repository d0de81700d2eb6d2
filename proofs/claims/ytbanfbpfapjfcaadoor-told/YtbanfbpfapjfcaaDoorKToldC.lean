/-
  Laws and small contracts for Told: an append that leaves what was there; what a part of Told's box is; the first loop's rows. Conditions: in each statement.
-/
import Derived.Test.YtbanfbpfapjfcaaDoorKToldB
namespace Go.Proofs.YtbanfbpfapjfcaaDoor
open Go.RowKit
set_option maxRecDepth 100000

theorem wpList_append_keep {P : Program} (w : World) {ops : Array Oper} {rest : List Oper} {o : Oper} {a : Act} {Q : Exit → Act → World → Prop}
    (hg : o.guard = none) (s x : Operand) (t : TypeId) (hop : o.op = Op.call { callee := Callee.builtin Builtin.append, args := #[s, x], argTypes := #[t, t] })
    (base : Nat) (e : TypeId) (i : TypeInfo) (h1 : P.underlying t = some (.slice e)) (h2 : P.info? e = some i) (h3 : i.zero = some (.int .u8 0)) (h4 : i.size = 1) (h5 : i.bytes = 1)
    (v : Value) (n : Nat) (xs : List UInt8) (hs : a.eval s = v) (hown : w.ownsRow base e 1 v n (xs.map U8)) (ad : Addr) (m c : Nat) (ys : List UInt8) (hx : a.eval x = .slice (some ad) m c) (hm : ys.length = m) (hy : At w (some ad) ys) (hb : n + m ≤ 140737488355328) (hbase : base ≤ w.heap.size)
    (hK : ∀ v' w', w'.ownsRow base e 1 v' (n + m) ((xs ++ ys).map U8) → w.grownBy w' v.ownBlock → Hid (∀ ao cc, v = .slice ao n cc → At w' ao xs) → wpList P ops Q rest (a.put o.dst v') w') :
    wpList P ops Q (o :: rest) a w := by
  refine wpList_plain hg fun K hK' => ?_
  subst hm
  obtain ⟨v', w', hrun, r1, r2, r3⟩ := run_append_at (P := P) w base t o.type e i h1 h2 h3 h4 h5 v n xs hown (some ad) ys.length c ys rfl (fun h => by cases h) hy hb hbase
  have keep : ∀ ao cc, v = .slice ao n cc → At w' ao xs := by
    intro ao cc hv
    obtain ⟨a0, c0, hv0, _, _, _, hat0⟩ := own_at2 hown
    rw [hv] at hv0
    injection hv0 with e1 _ _
    subst e1
    rcases hown.2 with ⟨hv1, hn0⟩ | ⟨g, cap, cur, hv1, hbg, hgc, hnc', hcm, hcs, htake⟩
    · have : xs = [] := List.eq_nil_of_length_eq_zero (by have := hown.1; simp at this; omega)
      rw [this]
      exact At.nil _ _
    · rw [hv] at hv1
      injection hv1 with e1 _ e3
      subst e1 e3
      subst hv
      have hl1 : (ys.map U8).length = ys.length * i.size := by simp [h4]
      by_cases hroom : n + ys.length ≤ cc
      · have hfit : n * i.size + (ys.map U8).length ≤ cur.size := by rw [h4, hcs]; simp; omega
        have hr := run_append_room (P := P) w t o.type e i h1 h2 g n cc cur hgc ad ys.length c (ys.map U8) hl1 (cells_map hy) (one_map ys) hroom hfit
        rw [hr] at hrun
        injection hrun with ha _
        subst ha
        obtain ⟨a1, c1, hv2, _, _, _, hat1⟩ := own_at2 r1
        injection hv2 with e2 _ _
        subst e2
        have := hat1.take xs.length
        rwa [List.take_left] at this
      · have holds : ∀ j u, (xs.map U8)[j]? = some u → w.cell? ((⟨g, 0, none⟩ : Addr).add j) = some u := hown.cells (g := g) rfl
        have hr := run_append_grow (P := P) w t o.type e i (.int .u8 0) h1 h2 h3 ⟨g, 0, none⟩ n cc (xs.map U8) (by have := hown.1; rw [h4]; simpa using this) holds ad ys.length c (ys.map U8) hl1 (cells_map hy) (by omega) (by omega) (growslice_fits (by omega) (by rw [h5]; omega))
        rw [hr] at hrun
        injection hrun with _ hw
        subst hw
        exact hat0.below (gb_trans (gb_drew (World.grownBy.refl w none)) (World.grownBy_alloc w.drew _ none))
  unfold Oper.wp
  simp [execOp, hop, resolve, invoke, builtin, hs, hx, hrun, Result.andThen]
  exact hK' _ _ (hK v' w' r1 r2 keep)

theorem Tryd.infoBytes : (Tryd.prog.info? 22).map (fun i => (i.zero, i.size, i.bytes)) = some (some (.slice none 0 0), 1, 24) := by kernel_rfl

/-- A list of numbers, as it lies. -/
def IAt (w : World) (ao : Option Addr) (ls : List Int) : Prop := ∀ j, (hj : j < ls.length) → ∃ b off, ao = some ⟨b, off, none⟩ ∧ w.cell? ⟨b, off + j, none⟩ = some (.int .i64 ls[j])
theorem IAt.below {w w' : World} {ao : Option Addr} {ls : List Int} (h : IAt w ao ls) (k : w.grownBy w' none) : IAt w' ao ls := fun j hj => by
  obtain ⟨b, off, e1, e2⟩ := h j hj
  exact ⟨b, off, e1, k.cell e2 (by simp)⟩

def itVal (x : KIt) : Value := .slice x.1 x.2.2.length x.2.1
/-- The slices that lie in a row: their bytes are there, in other blocks than the row. -/
def ItsOk (w : World) (base : Nat) (lv : Value) (its : List KIt) : Prop := ∀ x ∈ its, At w x.1 x.2.2 ∧ (x.1 = none → x.2.1 = 0) ∧ ∀ b off, x.1 = some ⟨b, off, none⟩ → base ≤ b ∧ b < w.heap.size ∧ some b ≠ lv.ownBlock
theorem at_keep {w w' : World} {a : Option Addr} {zs : List UInt8} (h : At w a zs) (hk : ∀ b off, a = some ⟨b, off, none⟩ → w'.heap[b]? = w.heap[b]?) : At w' a zs := by
  intro j hj
  obtain ⟨b, off, e1, e2⟩ := h j hj
  exact ⟨b, off, e1, by rw [cell_kept (hk b off e1)]; exact e2⟩
theorem ItsOk.grown {w w' : World} {base : Nat} {lv : Value} {its : List KIt} (h : ItsOk w base lv its) (k : w.grownBy w' none) : ItsOk w' base lv its := by
  intro x hx
  obtain ⟨h1, h2, h3⟩ := h x hx
  have := k.size
  exact ⟨h1.below k, h2, fun b off e => by have := h3 b off e; exact ⟨this.1, by omega, this.2.2⟩⟩
theorem ItsOk.items {w : World} {base : Nat} {lv : Value} {its : List KIt} {ao : Option Addr} {c : Nat} (h : ItsOk w base lv its) (hown : w.ownsRow base 22 1 lv its.length (its.map itVal)) (hlv : lv = .slice ao its.length c) : KItems w ao its := by
  subst hlv
  intro j hj
  obtain ⟨g0, hao⟩ : ∃ g0, ao = some ⟨g0, 0, none⟩ := by
    rcases hown.2 with ⟨h, h2⟩ | ⟨g, cap, cur, h, _⟩
    · omega
    · simp at h; exact ⟨g, h.1⟩
  subst hao
  obtain ⟨h1, h2, _⟩ := h its[j] (List.getElem_mem hj)
  refine ⟨g0, rfl, ?_, h1, h2⟩
  have := hown.cellAt j (by omega)
  rw [this]
  simp [itVal, hj]

/-- What the part of Told's box is. -/
structure ToldPart (w : World) (base : Nat) (v : Int) (bs : List UInt8) (l : List Int) (g c : Nat) (ab : Option Addr) (cb : Nat) (a' : Option Addr) (c' : Nat) : Prop where
  k0 : w.cell? ⟨g, 0, none⟩ = some (.int .u8 110)
  v0 : w.cell? ⟨g, 1, none⟩ = some (.int .i64 v)
  k1 : w.cell? ⟨g, 4, none⟩ = some (.int .u8 116)
  b1 : w.cell? ⟨g, 6, none⟩ = some (.slice ab bs.length cb)
  k2 : w.cell? ⟨g, 8, none⟩ = some (.int .u8 108)
  p2 : w.cell? ⟨g, 11, none⟩ = some (.slice a' l.length c')
  at1 : At w ab bs
  each : ∀ j (hj : j < l.length), ∃ g', a' = some ⟨g', 0, none⟩ ∧ w.cell? ⟨g', j * 4, none⟩ = some (.int .u8 110) ∧ w.cell? ⟨g', j * 4 + 1, none⟩ = some (.int .i64 l[j]) ∧ w.cell? ⟨g', j * 4 + 2, none⟩ = some (.slice none 0 0) ∧ w.cell? ⟨g', j * 4 + 3, none⟩ = some (.slice none 0 0)
theorem ToldPart.grown {w w' : World} {base : Nat} {v : Int} {bs : List UInt8} {l : List Int} {g c : Nat} {ab : Option Addr} {cb : Nat} {a' : Option Addr} {c' : Nat} (h : ToldPart w base v bs l g c ab cb a' c') (k : w.grownBy w' none) : ToldPart w' base v bs l g c ab cb a' c' :=
  ⟨k.cell h.k0 (by simp), k.cell h.v0 (by simp), k.cell h.k1 (by simp), k.cell h.b1 (by simp), k.cell h.k2 (by simp), k.cell h.p2 (by simp), h.at1.below k, fun j hj => by
    obtain ⟨g', e, q0, q1, q2, q3⟩ := h.each j hj
    exact ⟨g', e, k.cell q0 (by simp), k.cell q1 (by simp), k.cell q2 (by simp), k.cell q3 (by simp)⟩⟩

theorem leaf_num {w : World} {ok : Nat → Prop} {v : Int} {cs : List Value} (hv : I64' v) {d : Nat} (h : PartIs d w ok 2 (Box.low v (Box.size v)) cs) : cs = [.int .u8 110, .int .i64 v, .slice none 0 0, .slice none 0 0] := by
  have hl : LeafIs w ok 2 (Box.low v (Box.size v)) cs := by
    cases d with
    | zero => exact h
    | succ d =>
      rcases h with h | ⟨h, _⟩
      · exact h
      · exact absurd h (by decide)
  rcases hl with ⟨_, v', h1, h2⟩ | ⟨h, _⟩
  · rw [Box.num_low v hv.1 hv.2] at h1
    simp only [Option.some.injEq] at h1
    rw [h2, h1]
  · exact absurd h (by decide)
theorem leaf_text {w : World} {ok : Nat → Prop} {bs : List UInt8} {cs : List Value} {d : Nat} (h : PartIs d w ok 4 bs cs) : ∃ a c, cs = [.int .u8 116, .int .i64 0, .slice a bs.length c, .slice none 0 0] ∧ At w a bs := by
  have hl : LeafIs w ok 4 bs cs := by
    cases d with
    | zero => exact h
    | succ d =>
      rcases h with h | ⟨h, _⟩
      · exact h
      · exact absurd h (by decide)
  rcases hl with ⟨h, _⟩ | ⟨_, a, c, h1, h2, _⟩
  · exact absurd h (by decide)
  · exact ⟨a, c, h1, h2⟩
theorem leaf_list {w : World} {ok : Nat → Prop} {ins : List UInt8} {cs : List Value} {d : Nat} (h : PartIs (d + 1) w ok 48 ins cs) : ∃ (ps : List (UInt8 × List UInt8)) (a : Option Addr) (c : Nat) (css : List (List Value)), Box.cutsL ins = some ps ∧ cs = [.int .u8 108, .int .i64 0, .slice none 0 0, .slice a ps.length c] ∧ css.length = ps.length ∧
      ∀ k (hk : k < ps.length) (hk' : k < css.length), css[k].length = 4 ∧ PartIs d w ok ps[k].1 ps[k].2 css[k] ∧ ∃ g, a = some ⟨g, 0, none⟩ ∧ ok g ∧ ∀ j, j < 4 → w.cell? ⟨g, k * 4 + j, none⟩ = (css[k])[j]? := by
  rcases h with (⟨h, _⟩ | ⟨h, _⟩) | ⟨_, h⟩
  · exact absurd h (by decide)
  · exact absurd h (by decide)
  · exact h

theorem told_part {w : World} {ok : Nat → Prop} {v : Int} {bs : List UInt8} {l : List Int} {cs : List Value} (base : Nat) (hb : bs.length ≤ 60) (hl : l.length ≤ 10) (hv : I64' v) (hvs : ∀ x ∈ l, I64' x) (h : PartIs 8 w ok 48 (toldIn v bs l) cs) :
    ∃ g c ab cb a' c', cs = partCells 108 0 none 0 0 (some ⟨g, 0, none⟩) 3 c ∧ ToldPart w base v bs l g c ab cb a' c' := by
  obtain ⟨ps, a, c, css, h1, h2, h3, h4⟩ := leaf_list h
  rw [told_cuts v bs l hb hl] at h1
  simp only [Option.some.injEq] at h1
  subst h1
  have hlen : (toldParts v bs l).length = 3 := rfl
  rw [hlen] at h3
  obtain ⟨_, q0, g, ha, _, r0⟩ := h4 0 (by show 0 < 3; omega) (by omega)
  obtain ⟨_, q1, g1, ha1, _, r1⟩ := h4 1 (by show 1 < 3; omega) (by omega)
  obtain ⟨_, q2, g2, ha2, _, r2⟩ := h4 2 (by show 2 < 3; omega) (by omega)
  subst ha
  simp only [Option.some.injEq, Addr.mk.injEq, and_true] at ha1 ha2
  subst ha1 ha2
  have e0 := leaf_num hv q0
  obtain ⟨ab, cb, e1, hat⟩ := leaf_text q1
  obtain ⟨ps', a', c', css', m1, m2, m3, m4⟩ := leaf_list q2
  rw [show (toldParts v bs l)[2].2 = numsCat l from rfl, cutsL_nums] at m1
  simp only [Option.some.injEq] at m1
  subst m1
  rw [e0] at r0
  rw [e1] at r1
  rw [m2] at r2
  refine ⟨g, c, ab, cb, a', c', h2, ⟨r0 0 (by omega), r0 1 (by omega), r1 0 (by omega), r1 2 (by omega), r2 0 (by omega), ?_, hat, ?_⟩⟩
  · have := r2 3 (by omega)
    simpa using this
  · intro j hj
    have hj1 : j < (l.map fun v => ((2 : UInt8), Box.low v (Box.size v))).length := by simpa using hj
    obtain ⟨_, n1, g', n2, _, n3⟩ := m4 j hj1 (by rw [m3]; exact hj1)
    rw [show (l.map fun v => ((2 : UInt8), Box.low v (Box.size v)))[j] = (2, Box.low l[j] (Box.size l[j])) from by simp] at n1
    have en := leaf_num (hvs _ (List.getElem_mem hj)) n1
    rw [en] at n3
    exact ⟨g', n2, n3 0 (by omega), n3 1 (by omega), n3 2 (by omega), n3 3 (by omega)⟩
end Go.Proofs.YtbanfbpfapjfcaaDoor
