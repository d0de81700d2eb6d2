/-
  Plain mathematics: boxes one behind the other as a list of pieces; what is told of it. Then the contract of the document's pieces. Conditions: in each statement.
  Contract of the document's show and of its Show, in the words of Box.pshow and Box.whole. Conditions: in each statement.
-/
import Derived.Test.YtbanfbpfapjfcaaGreatDoorGRBoxG
import Derived.Test.YtbanfbpfapjfcaaGreatDoorGLaw2
import Derived.Test.YtbanfbpfapjfcaaGreatDoorGBoxF
namespace Go.Proofs.YtbanfbpfapjfcaaGreatDoor
open Go.RowKit
set_option maxRecDepth 100000

theorem Tryz.infoPiece : (Tryz.prog.info? 217).map (fun i => (i.zero, i.size, i.bytes)) = some (some (.agg zeroP), 2, 32) := by kernel_rfl

/-- A piece in memory: its tag, where what is in it lies, and that. -/
structure Pc where
  tag : UInt8
  ad : Option Addr
  cap : Nat
  ins : List UInt8
def Pc.cells (p : Pc) : List Value := [.int .u8 (p.tag.toNat : Int), .slice p.ad p.ins.length p.cap]
def pcCells (l : List Pc) : List Value := (l.map Pc.cells).flatten
def Pc.pair (p : Pc) : UInt8 × List UInt8 := (p.tag, p.ins)
/-- What is in it lies wherever the whole lies; it has room at most as the whole. -/
def PcOk (ao : Option Addr) (zs : List UInt8) (cap : Nat) (p : Pc) : Prop := (∀ w0, At w0 ao zs → At w0 p.ad p.ins) ∧ p.ins.length ≤ p.cap ∧ p.cap ≤ cap
theorem pcCells_snoc (l : List Pc) (x : Pc) : pcCells (l ++ [x]) = pcCells l ++ x.cells := by simp [pcCells]

def slLen : Value → Nat
  | .slice _ n _ => n
  | _ => 0
theorem cut_short {l : List UInt8} (h : l.length < 2) : Box.cut l = none := by
  rw [← Box.cut_again, Box.again, if_neg (fun h' => by omega)]

set_option maxHeartbeats 4000000 in
theorem rpieces_any (zs : List UInt8) (n : Nat) (ao : Option Addr) (cap : Nat) (w : World) (hn : Hid (zs.length = n)) (hl : n ≤ 100000) (hcap : n ≤ cap) (hcm : cap ≤ 9223372036854775807) (hc : At w ao zs) :
    Calls Tryz.prog 119 #[.slice ao n cap] w fun e w' =>
      (∀ ps, Box.cutsL zs = some ps → ∃ v l, e = .returned (.tuple #[v, .bool true]) ∧ w'.ownsRow w.heap.size 217 2 v l.length (pcCells l) ∧ l.map Pc.pair = ps ∧ ∀ p ∈ l, PcOk ao zs cap p) ∧
      (Box.cutsL zs = none → e = .returned (.tuple #[.slice none 0 0, .bool false])) ∧ w.grownBy w' none := by
  obtain ⟨ip, hip, hp0, hp1, hp2⟩ := info_parts Tryz.infoPiece
  go_enter Tryz.func119, Tryz.ntmps119
  go_wp2
  go_loopw [0, 4] (fun bv lv wr => ∃ (l : List Pc) (r : List UInt8) (m : Nat) (a : Option Addr) (c : Nat), bv = .slice a m c ∧ Hid (r.length = m) ∧ m ≤ c ∧ c ≤ cap ∧ Hid (∀ w0, At w0 ao zs → At w0 a r) ∧ wr.ownsRow w.heap.size 217 2 lv l.length (pcCells l) ∧ w.grownBy wr none ∧ Hid (Box.cutsL zs = (Box.cutsL r).map (l.map Pc.pair ++ ·)) ∧ Hid (∀ p ∈ l, PcOk ao zs cap p) ∧ l.length + m ≤ n) (fun bv _ _ => slLen bv)
  case atStart => exact ⟨[], zs, n, ao, cap, rfl, hn, hcap, Nat.le_refl _, hid (fun _ h => h), World.ownsRow_nil _ _ _ _, World.grownBy.refl _ _, by show _ = _; cases Box.cutsL zs <;> simp, by intro p hp; simp at hp, by simp⟩
  case round =>
    obtain ⟨l, r, m, a, c, rfl, HM, hmc, hcc, HAt, hown, hgr, HC, HOk, hlm⟩ := hrel
    by_cases hm0 : 0 < m
    · have hm0' : (0 : Int) < (m : Int) := by omega
      by_cases hm2 : m < 2
      · have HN : Hid (Box.cutsL zs = none) := by
          show _ = _
          rw [HC.out, Box.cutsL_none (by rw [HM.out]; exact hm0) (cut_short (by rw [HM.out]; exact hm2))]
          rfl
        clear HC
        go_wp2_with fail
        refine (first_short m a c _ hm2).mono ?_
        rintro e w1 ⟨rfl, hg1⟩
        have G1 := gb_alloc (gb_trans hgr hg1) (.cells zeroP 217)
        clear hown hg1
        go_wp2
        go_ret2
        exact ⟨fun ps h => by rw [HN.out] at h; simp at h, fun _ => rfl, G1⟩
      · have hatr := HAt.out _ (hc.below hgr)
        obtain ⟨b, off, rfl, _⟩ := hatr.addr (by rw [HM.out]; omega)
        have hF := first_any r m b off c _ HM (by omega) (by omega) hmc (by omega) hatr
        cases hcu : Box.cut r with
        | none =>
          have HN : Hid (Box.cutsL zs = none) := by
            show _ = _
            rw [HC.out, Box.cutsL_none (by rw [HM.out]; exact hm0) hcu]
            rfl
          rw [hcu] at hF
          clear HC hcu
          go_wp2_with fail
          refine hF.mono ?_
          rintro e w1 ⟨_, k2, hg1⟩
          obtain ⟨x, xa, xk, xc, rfl⟩ := k2 trivial
          have G1 := gb_alloc (gb_trans hgr hg1) (.cells #[.int .u8 x, .slice xa xk xc] 217)
          clear hown hg1 hF k2
          go_wp2
          go_ret2
          exact ⟨fun ps h => by rw [HN.out] at h; simp at h, fun _ => rfl, G1⟩
        | some tr =>
          obtain ⟨tag, i, r'⟩ := tr
          have hcl := Box.cut_length hcu
          rw [HM.out] at hcl
          have HC' : Hid (Box.cutsL zs = (Box.cutsL r').map (l.map Pc.pair ++ [(tag, i)] ++ ·)) := by
            show _ = _
            rw [HC.out, Box.cutsL_some hcu]
            cases Box.cutsL r' with
            | none => rfl
            | some ps => simp
          rw [hcu] at hF
          clear HC hcu
          go_wp2_with fail
          refine hF.mono ?_
          rintro e w1 ⟨k1, _, hg1⟩
          obtain ⟨a1, c1, a2, c2, rfl, hx1, hx2, hx3, hy1, hy2, hy3⟩ := k1 tag i r' rfl
          have hown1 := hown.kept hg1 (Classical.em _)
          have G1 := gb_trans hgr hg1
          have hsz1 := G1.size
          have hll1 : l.length + 1 ≤ maxLen := by unfold maxLen; omega
          have hll : (l.length + 1) * 32 ≤ 140737488355328 := by omega
          obtain ⟨p, hp⟩ : ∃ p : Pc, p = ⟨tag, a1, c1, i⟩ := ⟨_, rfl⟩
          have HP : Hid (p.cells = [.int .u8 (tag.toNat : Int), .slice a1 i.length c1]) := by subst hp; rfl
          have HP2 : Hid (p.pair = (tag, i)) := by subst hp; rfl
          have HP3 : Hid (PcOk ao zs cap p) := by subst hp; exact ⟨fun w0 h => hx1 w0 (HAt.out w0 h), hx2, by show c1 ≤ cap; omega⟩
          have HAt2 : Hid (∀ w0, At w0 ao zs → At w0 a2 r') := fun w0 h => hy1 w0 (HAt.out w0 h)
          clear hown hg1 hF k1 hp hx1 hy1
          go_wp2_with (at_builtin; refine wpList_append_blk _ rfl _ _ 238 rfl w.heap.size 217 ip _ 2 32 Tryz.underlying238 hip hp0 hp1 hp2 rfl (by decide) _ _ _ rfl ((hown1.alloc _).alloc _) ⟨w1.heap.size + 1, 0, none⟩ 1 1 [.int .u8 (tag.toNat : Int), .slice a1 i.length c1] rfl rfl ?q1 (by intro u hu; simp at hu; rcases hu with rfl | rfl <;> rfl) (by omega) hll1 hll (by simp; omega) ?_)
          case q1 =>
            have := cells_new (w1.alloc (.cells #[.int .u8 (tag.toNat : Int), .slice a1 i.length c1] 217)) 217 [.int .u8 (tag.toNat : Int), .slice a1 i.length c1]
            rw [World.size_alloc] at this
            exact this
          intro v2 w2 hown2 hg2 _
          have G2 : w.grownBy w2 none := gb_row (gb_alloc (gb_alloc G1 _) _) hg2 (fun j hj => (hown1.lt j hj).1)
          clear hown1 hg2 G1
          go_wp2
          go_roundw
          case rel =>
            refine ⟨l ++ [p], r', r'.length, a2, c2, rfl, hid rfl, hy2, by omega, HAt2, ?_, G2, ?_, ?_, ?_⟩
            · rw [pcCells_snoc, HP.out, List.length_append]
              exact hown2
            · show _ = _
              rw [HC'.out, List.map_append, List.map_cons, List.map_nil, HP2.out]
            · intro q hq
              rcases List.mem_append.1 hq with h | h
              · exact HOk.out q h
              · rw [List.mem_singleton.1 h]; exact HP3.out
            · rw [List.length_append]
              simp
              omega
          case measure => simp [slLen]; omega
    · have hm' : ¬ (0 : Int) < (m : Int) := by omega
      have HS : Hid (Box.cutsL zs = some (l.map Pc.pair)) := by
        show _ = _
        rw [HC.out, Box.cutsL_nil (by rw [HM.out]; omega)]
        simp
      clear HC
      go_wp2
      go_ret2
      refine ⟨fun ps h => ?_, (fun h => by rw [HS.out] at h; simp at h), hgr⟩
      rw [HS.out] at h
      simp only [Option.some.injEq] at h
      exact ⟨_, rfl, l, hown, h, HOk.out⟩
end Go.Proofs.YtbanfbpfapjfcaaGreatDoor
namespace Go.Proofs.YtbanfbpfapjfcaaGreatDoor
open Go.RowKit
set_option maxRecDepth 100000

theorem gb_grow (w : World) (k : Nat) (os : Array Obj) : w.grownBy (Sort.grow (w.drewN k) os) none := by
  have h := Lib.below_grow w.heap.size w (Nat.le_refl _) k os
  exact ⟨h.os, h.tape, h.output, h.size, fun i hi _ => h.block i hi⟩
theorem formatInt_any (n : Int) (h0 : -9223372036854775808 ≤ n) (h1 : n ≤ 9223372036854775807) (w : World) (htab : TabHere w) :
    Calls Tryz.prog 92 #[.int .i64 n, .int .i64 10] w fun e w' => e = .returned (.string ⟨(Lib.itoa n).toArray⟩) ∧ w.grownBy w' none :=
  (Go.Proofs.Tryz.strconv_FormatInt_10 n h0 h1 w htab).mono fun e w' ⟨he, k, os, hw⟩ => ⟨he, by rw [hw]; exact gb_grow w k os⟩

/-- What show answers. -/
def ShowSaid (d : Nat) (tag : UInt8) (zs : List UInt8) (e : Ending) : Prop :=
  (∀ t, Box.pshow d tag zs = some t → e = .returned (.tuple #[.string ⟨t.toArray⟩, .bool true])) ∧
  (Box.pshow d tag zs = none → ∃ s : ByteArray, s.size ≤ 22 + 22 * zs.length ∧ e = .returned (.tuple #[.string s, .bool false]))
theorem tab_grown {w w' : World} (h : TabHere w) (k : w.grownBy w' none) : TabHere w' := Lib.tabBelow_of_tabIs h w' (gb_below k)

theorem showSaid_no {d : Nat} {tag : UInt8} {zs : List UInt8} {s : ByteArray} (h : Box.pshow d tag zs = none) (hs : s.size ≤ 22 + 22 * zs.length) : ShowSaid d tag zs (.returned (.tuple #[.string s, .bool false])) :=
  ⟨fun t h' => by rw [h] at h'; simp at h', fun _ => ⟨s, hs, rfl⟩⟩
theorem showSaid_yes {d : Nat} {tag : UInt8} {zs t : List UInt8} (h : Box.pshow d tag zs = some t) : ShowSaid d tag zs (.returned (.tuple #[.string ⟨t.toArray⟩, .bool true])) :=
  ⟨fun t' h' => by rw [h] at h'; simp only [Option.some.injEq] at h'; subst h'; rfl, fun h' => by rw [h] at h'; simp at h'⟩

set_option maxHeartbeats 1000000 in
theorem show_num (d : Nat) (deep : Int) (tag : UInt8) (zs : List UInt8) (n : Nat) (ao : Option Addr) (cap : Nat) (w : World) (hn : Hid (zs.length = n)) (ht : tag.toNat = 2) (hc : At w ao zs) (htab : TabHere w) :
    Calls Tryz.prog 107 #[.agg #[.int .u8 (tag.toNat : Int), .slice ao n cap], .int .i64 deep] w fun e w' => ShowSaid d tag zs e ∧ w.grownBy w' none := by
  have h2 : ((tag.toNat : Int) == 2) = true := by rw [beq_iff_eq]; omega
  have HT : Hid (tag.toNat = 2) := ht
  have HD : Hid (Box.pshow d tag zs = (Box.num zs).map Lib.itoa) := by show _ = _; rw [Box.pshow_leaf d tag zs (by omega), Box.leaf, if_pos ht]
  clear ht
  have G0 : w.grownBy (w.alloc (.cells #[.int .u8 (tag.toNat : Int), .slice ao n cap] 217)) none := World.grownBy_alloc w _ none
  have hV := rvalue_any tag ao zs n cap _ hn (hc.below G0)
  cases hnum : Box.num zs with
  | some v =>
    have hvb := num_bounds hnum
    have HNum := hid hnum
    clear hnum
    go_enter Tryz.func107, Tryz.ntmps107
    go_wp2_with fail
    refine hV.mono ?_
    rintro e w1 ⟨hs, hg1⟩
    obtain rfl := hs.1 v HT.out HNum.out
    have G1 := gb_trans G0 hg1
    have hF := formatInt_any v hvb.1 hvb.2 w1 (tab_grown htab G1)
    clear hs hg1 hV
    go_wp2_with fail
    refine hF.mono ?_
    rintro e w2 ⟨rfl, hg2⟩
    have G2 := gb_trans G1 hg2
    clear hF hg2
    go_wp2
    go_ret2
    exact ⟨showSaid_yes (by rw [HD.out, HNum.out]; rfl), G2⟩
  | none =>
    have HNum := hid hnum
    clear hnum
    go_enter Tryz.func107, Tryz.ntmps107
    go_wp2_with fail
    refine hV.mono ?_
    rintro e w1 ⟨hs, hg1⟩
    obtain ⟨v, hv1, hv2, rfl⟩ := hs.2 (.inr HNum.out)
    have G1 := gb_trans G0 hg1
    have hF := formatInt_any v hv1 hv2 w1 (tab_grown htab G1)
    clear hs hg1 hV
    go_wp2_with fail
    refine hF.mono ?_
    rintro e w2 ⟨rfl, hg2⟩
    have G2 := gb_trans G1 hg2
    clear hF hg2
    go_wp2
    go_ret2
    refine ⟨showSaid_no (by rw [HD.out, HNum.out]; rfl) ?_, G2⟩
    have := Lib.itoa_length_le v hv1 hv2
    simp only [ByteArray.size, List.size_toArray]
    omega

set_option maxHeartbeats 1000000 in
theorem show_text (d : Nat) (deep : Int) (tag : UInt8) (zs : List UInt8) (n : Nat) (ao : Option Addr) (cap : Nat) (w : World) (hn : Hid (zs.length = n)) (hl : n ≤ 1000) (ht : tag.toNat = 4) (hc : At w ao zs) :
    Calls Tryz.prog 107 #[.agg #[.int .u8 (tag.toNat : Int), .slice ao n cap], .int .i64 deep] w fun e w' => ShowSaid d tag zs e ∧ w.grownBy w' none := by
  have h2 : ((tag.toNat : Int) == 2) = false := by rw [beq_eq_false_iff_ne]; omega
  have h4 : ((tag.toNat : Int) == 4) = true := by rw [beq_iff_eq]; omega
  have HD : Hid (Box.pshow d tag zs = some (34 :: Box.hex zs ++ [34])) := by show _ = _; rw [Box.pshow_leaf d tag zs (by omega), Box.leaf, if_neg (by omega), if_pos ht]
  clear ht
  have G0 : w.grownBy (w.alloc (.cells #[.int .u8 (tag.toNat : Int), .slice ao n cap] 217)) none := World.grownBy_alloc w _ none
  have hV := rhex_any zs n ao cap _ hn (by omega) (hc.below G0)
  have hsz : (⟨(Box.hex zs).toArray⟩ : ByteArray).size ≤ 2000 := by simp only [ByteArray.size, List.size_toArray]; rw [Box.hex_length, hn.out]; omega
  obtain ⟨H, HH⟩ : ∃ H : ByteArray, Hid ((⟨(Box.hex zs).toArray⟩ : ByteArray) = H) := ⟨_, rfl⟩
  rw [HH.out] at hV hsz
  go_enter Tryz.func107, Tryz.ntmps107
  go_wp2_with fail
  refine hV.mono ?_
  rintro e w1 ⟨rfl, m, rfl⟩
  clear hV
  go_wp2
  go_ret2
  refine ⟨⟨fun t h => ?_, fun h => by rw [HD.out] at h; simp at h⟩, gb_drewN G0 m⟩
  rw [HD.out] at h
  simp only [Option.some.injEq] at h
  subst h
  rw [← HH.out]
  rfl

set_option maxHeartbeats 1000000 in
theorem show_other (d : Nat) (deep : Int) (tag : UInt8) (zs : List UInt8) (w : World) (h2 : tag.toNat ≠ 2) (h4 : tag.toNat ≠ 4) (h48 : tag.toNat ≠ 48) (ao : Option Addr) (n cap : Nat) :
    Calls Tryz.prog 107 #[.agg #[.int .u8 (tag.toNat : Int), .slice ao n cap], .int .i64 deep] w fun e w' => ShowSaid d tag zs e ∧ w.grownBy w' none := by
  have h2' : ((tag.toNat : Int) == 2) = false := by rw [beq_eq_false_iff_ne]; omega
  have h4' : ((tag.toNat : Int) == 4) = false := by rw [beq_eq_false_iff_ne]; omega
  have h48' : ((tag.toNat : Int) == 48) = false := by rw [beq_eq_false_iff_ne]; omega
  have HD : Hid (Box.pshow d tag zs = none) := by show _ = _; rw [Box.pshow_leaf d tag zs h48, Box.leaf, if_neg h2, if_neg h4]
  clear h2 h4 h48
  go_enter Tryz.func107, Tryz.ntmps107
  go_wp2
  go_ret2
  exact ⟨showSaid_no HD.out (by simp [ByteArray.size]), World.grownBy_alloc w _ none⟩
end Go.Proofs.YtbanfbpfapjfcaaGreatDoor
