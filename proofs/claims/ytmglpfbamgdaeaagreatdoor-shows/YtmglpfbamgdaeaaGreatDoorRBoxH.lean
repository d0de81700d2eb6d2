/-
  Plain mathematics: boxes one behind the other as a list of pieces; what is told of it. Then the contract of the document's pieces. Conditions: in each statement.
-/
import Derived.Test.YtmglpfbamgdaeaaGreatDoorRBoxG
import Derived.Test.YtmglpfbamgdaeaaGreatDoorLaw2
namespace Go.Proofs.YtmglpfbamgdaeaaGreatDoor.Box

def cuts : Nat → List UInt8 → Option (List (UInt8 × List UInt8))
  | 0, l => if l.length = 0 then some [] else none
  | n + 1, l => if l.length = 0 then some [] else
    match cut l with
    | none => none
    | some (t, i, r) => (cuts n r).map ((t, i) :: ·)
theorem cuts_fuel : ∀ (n m : Nat) (l : List UInt8), l.length ≤ n → l.length ≤ m → cuts n l = cuts m l := by
  intro n
  induction n with
  | zero =>
    intro m l h1 _
    have h0 : l.length = 0 := by omega
    cases m with
    | zero => rfl
    | succ m => simp [cuts, h0]
  | succ n ih =>
    intro m l h1 h2
    cases m with
    | zero =>
      have h0 : l.length = 0 := by omega
      simp [cuts, h0]
    | succ m =>
      by_cases h0 : l.length = 0
      · simp [cuts, h0]
      · simp only [cuts, if_neg h0]
        cases h : cut l with
        | none => rfl
        | some tr =>
          obtain ⟨t, i, r⟩ := tr
          have := cut_length h
          simp only
          rw [ih m r (by omega) (by omega)]
def cutsL (l : List UInt8) : Option (List (UInt8 × List UInt8)) := cuts l.length l
theorem cutsL_nil {l : List UInt8} (h : l.length = 0) : cutsL l = some [] := by
  have : l = [] := List.eq_nil_of_length_eq_zero h
  subst this
  rfl
theorem cutsL_none {l : List UInt8} (h0 : 0 < l.length) (h : cut l = none) : cutsL l = none := by
  unfold cutsL
  obtain ⟨m, hm⟩ : ∃ m, l.length = m + 1 := ⟨l.length - 1, by omega⟩
  rw [hm, cuts, if_neg (by omega), h]
theorem cutsL_some {l i r : List UInt8} {t : UInt8} (h : cut l = some (t, i, r)) : cutsL l = (cutsL r).map ((t, i) :: ·) := by
  have hlt := cut_length h
  unfold cutsL
  obtain ⟨m, hm⟩ : ∃ m, l.length = m + 1 := ⟨l.length - 1, by omega⟩
  rw [hm, cuts, if_neg (by omega), h]
  simp only
  rw [cuts_fuel m r.length r (by omega) (by omega)]

/-- How many bytes pieces take, at the least. -/
def wt : List (UInt8 × List UInt8) → Nat
  | [] => 0
  | p :: ps => p.2.length + 2 + wt ps
theorem wt_append (a b : List (UInt8 × List UInt8)) : wt (a ++ b) = wt a + wt b := by
  induction a with
  | nil => simp [wt]
  | cons p a ih => simp only [List.cons_append, wt, ih]; omega
theorem cutsL_wt : ∀ (n : Nat) (l : List UInt8) (ps : List (UInt8 × List UInt8)), l.length ≤ n → cutsL l = some ps → wt ps ≤ l.length := by
  intro n
  induction n with
  | zero =>
    intro l ps h1 h
    rw [cutsL_nil (by omega)] at h
    simp only [Option.some.injEq] at h
    subst h
    simp [wt]
  | succ n ih =>
    intro l ps h1 h
    by_cases h0 : l.length = 0
    · rw [cutsL_nil h0] at h
      simp only [Option.some.injEq] at h
      subst h
      simp [wt]
    · cases hc : cut l with
      | none => rw [cutsL_none (by omega) hc] at h; simp at h
      | some tr =>
        obtain ⟨t, i, r⟩ := tr
        have hl := cut_length hc
        rw [cutsL_some hc] at h
        simp only [Option.map_eq_some_iff] at h
        obtain ⟨ps', h', rfl⟩ := h
        have := ih r ps' (by omega) h'
        simp only [wt]
        omega

/-- A piece as a text; lists in one another at most so deep. -/
def pshow : Nat → UInt8 → List UInt8 → Option (List UInt8)
  | 0, tag, i => leaf tag i
  | d + 1, tag, i => piece (fun i => allL (show1 d) i) tag i
def tells (d : Nat) : List (UInt8 × List UInt8) → Option (List (List UInt8))
  | [] => some []
  | p :: ps => match pshow d p.1 p.2 with
    | none => none
    | some t => (tells d ps).map (t :: ·)
theorem show1_eq (d : Nat) (l : List UInt8) : show1 d l = match cut l with
    | none => none
    | some (tag, i, r) => (pshow d tag i).map (·, r) := by
  cases d with
  | zero => rw [show1]; rfl
  | succ d => rw [show1]; rfl
theorem allL_tells (d : Nat) : ∀ (n : Nat) (l : List UInt8), l.length ≤ n → allL (show1 d) l = match cutsL l with
    | none => none
    | some ps => tells d ps := by
  intro n
  induction n with
  | zero =>
    intro l h1
    have : l = [] := List.eq_nil_of_length_eq_zero (by omega)
    subst this
    rfl
  | succ n ih =>
    intro l h1
    by_cases h0 : l.length = 0
    · have : l = [] := List.eq_nil_of_length_eq_zero h0
      subst this
      rfl
    · have hs := show1_eq d l
      cases hc : cut l with
      | none =>
        rw [hc] at hs
        rw [cutsL_none (by omega) hc, allL_none (by omega) hs]
      | some tr =>
        obtain ⟨t, i, r⟩ := tr
        have hl := cut_length hc
        rw [hc] at hs
        simp only at hs
        rw [cutsL_some hc]
        cases hp : pshow d t i with
        | none =>
          rw [hp] at hs
          rw [allL_none (by omega) hs]
          cases cutsL r with
          | none => rfl
          | some ps => simp [tells, hp]
        | some x =>
          rw [hp] at hs
          rw [allL_some (show1_shrinks d) hs, ih r (by omega)]
          cases cutsL r with
          | none => rfl
          | some ps => simp [tells, hp]
theorem pshow_list (d : Nat) (tag : UInt8) (i : List UInt8) (h : tag.toNat = 48) : pshow (d + 1) tag i = match cutsL i with
    | none => none
    | some ps => (tells d ps).map fun ts => 123 :: commas ts ++ [125] := by
  rw [pshow, piece, if_pos h, allL_tells d i.length i (Nat.le_refl _)]
  cases cutsL i with
  | none => rfl
  | some ps => rfl
theorem pshow_leaf (d : Nat) (tag : UInt8) (i : List UInt8) (h : tag.toNat ≠ 48) : pshow d tag i = leaf tag i := by
  cases d with
  | zero => rfl
  | succ d => rw [pshow, piece, if_neg h]
theorem pshow_zero (tag : UInt8) (i : List UInt8) (h : tag.toNat = 48) : pshow 0 tag i = none := by
  rw [pshow, leaf, if_neg (by omega), if_neg (by omega)]
theorem tells_snoc (d : Nat) (ps : List (UInt8 × List UInt8)) (p : UInt8 × List UInt8) : tells d (ps ++ [p]) = match tells d ps with
    | none => none
    | some ts => (pshow d p.1 p.2).map fun t => ts ++ [t] := by
  induction ps with
  | nil =>
    simp only [List.nil_append, tells]
    cases pshow d p.1 p.2 with
    | none => rfl
    | some t => rfl
  | cons q ps ih =>
    simp only [List.cons_append, tells]
    cases pshow d q.1 q.2 with
    | none => rfl
    | some t =>
      simp only
      rw [ih]
      cases tells d ps with
      | none => rfl
      | some ts =>
        simp only [Option.map_some]
        cases pshow d p.1 p.2 with
        | none => rfl
        | some u => rfl
theorem tells_none {d : Nat} {a b : List (UInt8 × List UInt8)} (h : tells d a = none) : tells d (a ++ b) = none := by
  induction a with
  | nil => simp [tells] at h
  | cons q a ih =>
    simp only [List.cons_append, tells] at h ⊢
    cases hq : pshow d q.1 q.2 with
    | none => rfl
    | some t =>
      rw [hq] at h
      simp only [Option.map_eq_none_iff] at h
      simp only
      rw [ih h]
      rfl
theorem tells_length {d : Nat} {ps : List (UInt8 × List UInt8)} : ∀ {ts : List (List UInt8)}, tells d ps = some ts → ts.length = ps.length := by
  induction ps with
  | nil => intro ts h; simp only [tells, Option.some.injEq] at h; subst h; rfl
  | cons q ps ih =>
    intro ts h
    simp only [tells] at h
    cases hq : pshow d q.1 q.2 with
    | none => rw [hq] at h; simp at h
    | some t =>
      rw [hq] at h
      simp only [Option.map_eq_some_iff] at h
      obtain ⟨ts', h', rfl⟩ := h
      simp [ih h']
end Go.Proofs.YtmglpfbamgdaeaaGreatDoor.Box

namespace Go.Proofs.YtmglpfbamgdaeaaGreatDoor
open Go.RowKit
set_option maxRecDepth 100000

theorem Tryz.infoPiece : (Tryz.prog.info? 117).map (fun i => (i.zero, i.size, i.bytes)) = some (some (.agg zeroP), 2, 32) := by kernel_rfl

/-- A piece in memory: its tag, where what is in it lies, and that. -/
structure Pc where
  tag : UInt8
  ad : Option Addr
  cap : Nat
  ins : List UInt8
def Pc.cells (p : Pc) : List Value := [.int .u8 (p.tag.toNat : Int), .slice p.ad p.ins.length p.cap]
def pcCells (l : List Pc) : List Value := (l.map Pc.cells).flatten
def Pc.pair (p : Pc) : UInt8 × List UInt8 := (p.tag, p.ins)
/-- What is in it lies wherever the whole lies; it has room at most as the whole. -/
def PcOk (ao : Option Addr) (zs : List UInt8) (cap : Nat) (p : Pc) : Prop := (∀ w0, At w0 ao zs → At w0 p.ad p.ins) ∧ p.ins.length ≤ p.cap ∧ p.cap ≤ cap
theorem pcCells_snoc (l : List Pc) (x : Pc) : pcCells (l ++ [x]) = pcCells l ++ x.cells := by simp [pcCells]

def slLen : Value → Nat
  | .slice _ n _ => n
  | _ => 0
theorem cut_short {l : List UInt8} (h : l.length < 2) : Box.cut l = none := by
  rw [← Box.cut_again, Box.again, if_neg (fun h' => by omega)]

set_option maxHeartbeats 4000000 in
theorem rpieces_any (zs : List UInt8) (n : Nat) (ao : Option Addr) (cap : Nat) (w : World) (hn : Hid (zs.length = n)) (hl : n ≤ 100000) (hcap : n ≤ cap) (hcm : cap ≤ 9223372036854775807) (hc : At w ao zs) :
    Calls Tryz.prog 66 #[.slice ao n cap] w fun e w' =>
      (∀ ps, Box.cutsL zs = some ps → ∃ v l, e = .returned (.tuple #[v, .bool true]) ∧ w'.ownsRow w.heap.size 117 2 v l.length (pcCells l) ∧ l.map Pc.pair = ps ∧ ∀ p ∈ l, PcOk ao zs cap p) ∧
      (Box.cutsL zs = none → e = .returned (.tuple #[.slice none 0 0, .bool false])) ∧ w.grownBy w' none := by
  obtain ⟨ip, hip, hp0, hp1, hp2⟩ := info_parts Tryz.infoPiece
  go_enter Tryz.func66, Tryz.ntmps66
  go_wp2
  go_loopw [0, 4] (fun bv lv wr => ∃ (l : List Pc) (r : List UInt8) (m : Nat) (a : Option Addr) (c : Nat), bv = .slice a m c ∧ Hid (r.length = m) ∧ m ≤ c ∧ c ≤ cap ∧ Hid (∀ w0, At w0 ao zs → At w0 a r) ∧ wr.ownsRow w.heap.size 117 2 lv l.length (pcCells l) ∧ w.grownBy wr none ∧ Hid (Box.cutsL zs = (Box.cutsL r).map (l.map Pc.pair ++ ·)) ∧ Hid (∀ p ∈ l, PcOk ao zs cap p) ∧ l.length + m ≤ n) (fun bv _ _ => slLen bv)
  case atStart => exact ⟨[], zs, n, ao, cap, rfl, hn, hcap, Nat.le_refl _, hid (fun _ h => h), World.ownsRow_nil _ _ _ _, World.grownBy.refl _ _, by show _ = _; cases Box.cutsL zs <;> simp, by intro p hp; simp at hp, by simp⟩
  case round =>
    obtain ⟨l, r, m, a, c, rfl, HM, hmc, hcc, HAt, hown, hgr, HC, HOk, hlm⟩ := hrel
    by_cases hm0 : 0 < m
    · have hm0' : (0 : Int) < (m : Int) := by omega
      by_cases hm2 : m < 2
      · have HN : Hid (Box.cutsL zs = none) := by
          show _ = _
          rw [HC.out, Box.cutsL_none (by rw [HM.out]; exact hm0) (cut_short (by rw [HM.out]; exact hm2))]
          rfl
        clear HC
        go_wp2_with fail
        refine (first_short m a c _ hm2).mono ?_
        rintro e w1 ⟨rfl, hg1⟩
        have G1 := gb_alloc (gb_trans hgr hg1) (.cells zeroP 117)
        clear hown hg1
        go_wp2
        go_ret2
        exact ⟨fun ps h => by rw [HN.out] at h; simp at h, fun _ => rfl, G1⟩
      · have hatr := HAt.out _ (hc.below hgr)
        obtain ⟨b, off, rfl, _⟩ := hatr.addr (by rw [HM.out]; omega)
        have hF := first_any r m b off c _ HM (by omega) (by omega) hmc (by omega) hatr
        cases hcu : Box.cut r with
        | none =>
          have HN : Hid (Box.cutsL zs = none) := by
            show _ = _
            rw [HC.out, Box.cutsL_none (by rw [HM.out]; exact hm0) hcu]
            rfl
          rw [hcu] at hF
          clear HC hcu
          go_wp2_with fail
          refine hF.mono ?_
          rintro e w1 ⟨_, k2, hg1⟩
          obtain ⟨x, xa, xk, xc, rfl⟩ := k2 trivial
          have G1 := gb_alloc (gb_trans hgr hg1) (.cells #[.int .u8 x, .slice xa xk xc] 117)
          clear hown hg1 hF k2
          go_wp2
          go_ret2
          exact ⟨fun ps h => by rw [HN.out] at h; simp at h, fun _ => rfl, G1⟩
        | some tr =>
          obtain ⟨tag, i, r'⟩ := tr
          have hcl := Box.cut_length hcu
          rw [HM.out] at hcl
          have HC' : Hid (Box.cutsL zs = (Box.cutsL r').map (l.map Pc.pair ++ [(tag, i)] ++ ·)) := by
            show _ = _
            rw [HC.out, Box.cutsL_some hcu]
            cases Box.cutsL r' with
            | none => rfl
            | some ps => simp
          rw [hcu] at hF
          clear HC hcu
          go_wp2_with fail
          refine hF.mono ?_
          rintro e w1 ⟨k1, _, hg1⟩
          obtain ⟨a1, c1, a2, c2, rfl, hx1, hx2, hx3, hy1, hy2, hy3⟩ := k1 tag i r' rfl
          have hown1 := hown.kept hg1 (Classical.em _)
          have G1 := gb_trans hgr hg1
          have hsz1 := G1.size
          have hll1 : l.length + 1 ≤ maxLen := by unfold maxLen; omega
          have hll : (l.length + 1) * 32 ≤ 140737488355328 := by omega
          obtain ⟨p, hp⟩ : ∃ p : Pc, p = ⟨tag, a1, c1, i⟩ := ⟨_, rfl⟩
          have HP : Hid (p.cells = [.int .u8 (tag.toNat : Int), .slice a1 i.length c1]) := by subst hp; rfl
          have HP2 : Hid (p.pair = (tag, i)) := by subst hp; rfl
          have HP3 : Hid (PcOk ao zs cap p) := by subst hp; exact ⟨fun w0 h => hx1 w0 (HAt.out w0 h), hx2, by show c1 ≤ cap; omega⟩
          have HAt2 : Hid (∀ w0, At w0 ao zs → At w0 a2 r') := fun w0 h => hy1 w0 (HAt.out w0 h)
          clear hown hg1 hF k1 hp hx1 hy1
          go_wp2_with (at_builtin; refine wpList_append_blk _ rfl _ _ 158 rfl w.heap.size 117 ip _ 2 32 Tryz.underlying158 hip hp0 hp1 hp2 rfl (by decide) _ _ _ rfl ((hown1.alloc _).alloc _) ⟨w1.heap.size + 1, 0, none⟩ 1 1 [.int .u8 (tag.toNat : Int), .slice a1 i.length c1] rfl rfl ?q1 (by intro u hu; simp at hu; rcases hu with rfl | rfl <;> rfl) (by omega) hll1 hll (by simp; omega) ?_)
          case q1 =>
            have := cells_new (w1.alloc (.cells #[.int .u8 (tag.toNat : Int), .slice a1 i.length c1] 117)) 117 [.int .u8 (tag.toNat : Int), .slice a1 i.length c1]
            rw [World.size_alloc] at this
            exact this
          intro v2 w2 hown2 hg2 _
          have G2 : w.grownBy w2 none := gb_row (gb_alloc (gb_alloc G1 _) _) hg2 (fun j hj => (hown1.lt j hj).1)
          clear hown1 hg2 G1
          go_wp2
          go_roundw
          case rel =>
            refine ⟨l ++ [p], r', r'.length, a2, c2, rfl, hid rfl, hy2, by omega, HAt2, ?_, G2, ?_, ?_, ?_⟩
            · rw [pcCells_snoc, HP.out, List.length_append]
              exact hown2
            · show _ = _
              rw [HC'.out, List.map_append, List.map_cons, List.map_nil, HP2.out]
            · intro q hq
              rcases List.mem_append.1 hq with h | h
              · exact HOk.out q h
              · rw [List.mem_singleton.1 h]; exact HP3.out
            · rw [List.length_append]
              simp
              omega
          case measure => simp [slLen]; omega
    · have hm' : ¬ (0 : Int) < (m : Int) := by omega
      have HS : Hid (Box.cutsL zs = some (l.map Pc.pair)) := by
        show _ = _
        rw [HC.out, Box.cutsL_nil (by rw [HM.out]; omega)]
        simp
      clear HC
      go_wp2
      go_ret2
      refine ⟨fun ps h => ?_, (fun h => by rw [HS.out] at h; simp at h), hgr⟩
      rw [HS.out] at h
      simp only [Option.some.injEq] at h
      exact ⟨_, rfl, l, hown, h, HOk.out⟩
end Go.Proofs.YtmglpfbamgdaeaaGreatDoor
