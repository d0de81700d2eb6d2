/-
  Contract of the document's show at lists, and of its Show. Conditions: in each statement.
  Contract of the document's Show: the same two results as the program's. Conditions: in the statement.
  Contract of World.free and World.step at a step that shows. Conditions: in each statement.
-/
import Derived.Test.YtbanfbpfapjfcaaGreatDoorGRBoxH
import Derived.Test.YtbanfbpfapjfcaaGreatDoorGLaw6
namespace Go.Proofs.YtbanfbpfapjfcaaGreatDoor
open Go.RowKit
set_option maxRecDepth 100000

theorem wt_length (ps : List (UInt8 × List UInt8)) : ps.length ≤ Box.wt ps := by
  induction ps with
  | nil => simp
  | cons p ps ih => simp only [List.length_cons, Box.wt]; omega
theorem wt_take (ps : List (UInt8 × List UInt8)) (k : Nat) : Box.wt (ps.take k) ≤ Box.wt ps := by
  have := Box.wt_append (ps.take k) (ps.drop k)
  rw [List.take_append_drop] at this
  omega
theorem wt_snoc {ps : List (UInt8 × List UInt8)} {k : Nat} (h : k < ps.length) : Box.wt (ps.take (k + 1)) = Box.wt (ps.take k) + (ps[k].2.length + 2) := by
  rw [List.take_succ_eq_append_getElem h, Box.wt_append]
  simp [Box.wt]
/-- What show answers of all that has fewer bytes. -/
def ShowsBelow (L : Nat) : Prop := ∀ (dn : Nat) (tag : UInt8) (zs : List UInt8) (n : Nat) (ao : Option Addr) (cap : Nat) (w : World), n < L → Hid (zs.length = n) → n ≤ cap → cap ≤ 9223372036854775807 → 1 ≤ dn → dn + n ≤ 1000 → At w ao zs → TabHere w →
  Calls Tryz.prog 107 #[.agg #[.int .u8 (tag.toNat : Int), .slice ao n cap], .int .i64 (dn : Int)] w fun e w' => ShowSaid (9 - dn) tag zs e ∧ w.grownBy w' none

theorem pcCells_get (l : List Pc) : ∀ (k j : Nat) (hk : k < l.length), j < 2 → (pcCells l)[k * 2 + j]? = (l[k]).cells[j]? := by
  induction l with
  | nil => intro k j hk; simp at hk
  | cons x l ih =>
    intro k j hk hj
    have e : pcCells (x :: l) = x.cells ++ pcCells l := by simp [pcCells]
    rw [e]
    cases k with
    | zero => rw [Nat.zero_mul, Nat.zero_add, List.getElem?_append_left (by show j < 2; exact hj)]; rfl
    | succ k =>
      rw [List.getElem?_append_right (by show 2 ≤ (k + 1) * 2 + j; omega), show (k + 1) * 2 + j - x.cells.length = k * 2 + j from by show (k + 1) * 2 + j - 2 = k * 2 + j; omega]
      exact ih k j (by simpa using hk) hj

/-- What is said of a list, by what is said of its pieces. -/
theorem list_none {dn : Nat} {tag : UInt8} {zs : List UInt8} (h48 : tag.toNat = 48) (h : 9 ≤ dn ∨ (match Box.cutsL zs with | none => none | some ps => Box.tells (9 - (dn + 1)) ps) = none) : Box.pshow (9 - dn) tag zs = none := by
  by_cases h9 : 9 ≤ dn
  · rw [show 9 - dn = 0 from by omega, Box.pshow_zero tag zs h48]
  · rw [show 9 - dn = (9 - (dn + 1)) + 1 from by omega, Box.pshow_list _ tag zs h48]
    rcases h with h | h
    · exact absurd h h9
    · cases hc : Box.cutsL zs with
      | none => rfl
      | some ps =>
        rw [hc] at h
        simp only at h
        simp only [h]
        rfl
theorem list_some {dn : Nat} {tag : UInt8} {zs : List UInt8} {ps : List (UInt8 × List UInt8)} {ts : List (List UInt8)} (h48 : tag.toNat = 48) (h8 : dn ≤ 8) (hc : Box.cutsL zs = some ps) (h : Box.tells (9 - (dn + 1)) ps = some ts) : Box.pshow (9 - dn) tag zs = some (123 :: Box.commas ts ++ [125]) := by
  rw [show 9 - dn = (9 - (dn + 1)) + 1 from by omega, Box.pshow_list _ tag zs h48, hc]
  simp only [h]
  rfl

set_option maxHeartbeats 4000000 in
theorem show_list (L : Nat) (ih : ShowsBelow L) (dn : Nat) (tag : UInt8) (zs : List UInt8) (n : Nat) (ao : Option Addr) (cap : Nat) (w : World) (hL : n ≤ L) (hn : Hid (zs.length = n)) (hcap : n ≤ cap) (hcm : cap ≤ 9223372036854775807) (hd : 1 ≤ dn) (hdn : dn + n ≤ 1000) (h48 : tag.toNat = 48) (hc : At w ao zs) (htab : TabHere w) :
    Calls Tryz.prog 107 #[.agg #[.int .u8 (tag.toNat : Int), .slice ao n cap], .int .i64 (dn : Int)] w fun e w' => ShowSaid (9 - dn) tag zs e ∧ w.grownBy w' none := by
  have h2' : ((tag.toNat : Int) == 2) = false := by rw [beq_eq_false_iff_ne]; omega
  have h4' : ((tag.toNat : Int) == 4) = false := by rw [beq_eq_false_iff_ne]; omega
  have h48' : ((tag.toNat : Int) == 48) = true := by rw [beq_iff_eq]; omega
  have H48 : Hid (tag.toNat = 48) := h48
  clear h48
  have G0 : w.grownBy (w.alloc (.cells #[.int .u8 (tag.toNat : Int), .slice ao n cap] 217)) none := World.grownBy_alloc w _ none
  have hP := rpieces_any zs n ao cap _ hn (by omega) hcap hcm (hc.below G0)
  cases hcu : Box.cutsL zs with
  | none =>
    rw [hcu] at hP
    have HN : Hid (Box.pshow (9 - dn) tag zs = none) := list_none H48.out (.inr (by rw [hcu]))
    clear hcu
    go_enter Tryz.func107, Tryz.ntmps107
    go_wp2_with fail
    refine hP.mono ?_
    rintro e w1 ⟨_, k2, hg1⟩
    obtain rfl := k2 trivial
    have G1 := gb_trans G0 hg1
    clear hP k2 hg1
    go_wp2
    refine wp_loop_rounds 1 ?_
    rw [rounds_succ]
    go_wp2
    go_ret2
    exact ⟨showSaid_no HN.out (by simp [ByteArray.size]; omega), G1⟩
  | some ps =>
    have hwt := Box.cutsL_wt n zs ps (by rw [hn.out]; exact Nat.le_refl _) hcu
    rw [hn.out] at hwt
    have HCU := hid hcu
    rw [hcu] at hP
    clear hcu
    go_enter Tryz.func107, Tryz.ntmps107
    go_wp2_with fail
    refine hP.mono ?_
    rintro e w1 ⟨k1, _, hg1⟩
    obtain ⟨v, l, rfl, hown, hlp, hok⟩ := k1 ps rfl
    have HLP := hid hlp
    have HOk := hid hok
    have G1 := gb_trans G0 hg1
    obtain ⟨av, cv, rfl⟩ := own_shape hown
    clear hP k1 hg1 hlp hok
    obtain ⟨m, hm⟩ : ∃ m, m = l.length := ⟨_, rfl⟩
    have HLM : Hid (l.length = m) := hm.symm
    rw [← hm] at hown ⊢
    clear hm
    have hml : m ≤ n := by
      have := wt_length ps
      have h2 := congrArg List.length HLP.out
      rw [List.length_map, HLM.out] at h2
      omega
    go_wp2_with fail
    go_loopw [9, 10, 11] (fun ov sv i wr => ∃ (o : Bool) (k : Nat) (b : ByteArray), k ≤ m ∧ i = .int .i64 k ∧ ov = .bool o ∧ sv = .string b ∧ w1.grownBy wr none ∧ b.size ≤ 1 + 22 * Box.wt (ps.take k) ∧ Hid (o = true → ∃ ts, Box.tells (9 - (dn + 1)) (ps.take k) = some ts ∧ b = ⟨(123 :: Box.commas ts).toArray⟩) ∧ Hid (o = false → Box.tells (9 - (dn + 1)) ps = none)) (fun _ _ i _ => m - (intOf i).toNat)
    case atStart =>
      exact ⟨true, 0, _, Nat.zero_le _, rfl, rfl, rfl, World.grownBy.refl _ _, by simp [ByteArray.size], hid (fun _ => ⟨[], rfl, rfl⟩), hid (fun h => by cases h)⟩
    case round =>
      obtain ⟨o, k, b, hk, rfl, rfl, rfl, hgr, hbs, HT, HF⟩ := hrel
      cases o with
      | false =>
        have HN : Hid (Box.pshow (9 - dn) tag zs = none) := list_none H48.out (.inr (by rw [HCU.out]; exact HF.out rfl))
        have hbs2 : b.size ≤ 1 + 22 * n := by
          have := wt_take ps k
          omega
        have G2 := gb_trans G1 hgr
        clear HT HF
        by_cases hlt : k < m
        · have hlt' : (k : Int) < (m : Int) := by omega
          go_wp2
          go_ret2
          exact ⟨showSaid_no HN.out (by rw [hn.out]; simp [ByteArray.size_append]; show b.size + 1 ≤ _; omega), G2⟩
        · have hlt' : ¬ (k : Int) < (m : Int) := by omega
          go_wp2
          go_ret2
          exact ⟨showSaid_no HN.out (by rw [hn.out]; simp [ByteArray.size_append]; show b.size + 1 ≤ _; omega), G2⟩
      | true =>
        by_cases hlt : k < m
        · have hlt' : (k : Int) < (m : Int) := by omega
          have hk0 : (0 : Int) ≤ (k : Int) := by omega
          have hlk : k < l.length := by rw [HLM.out]; exact hlt
          have hpk : k < ps.length := by rw [← HLP.out, List.length_map]; exact hlk
          obtain ⟨g0, hav⟩ : ∃ g0, av = some ⟨g0, 0, none⟩ := by
            rcases hown.2 with ⟨h, h2⟩ | ⟨g, cap, cur, h, _⟩
            · omega
            · simp at h; exact ⟨g, h.1⟩
          subst hav
          have hownr := hown.kept hgr (by simp [Value.ownBlock])
          have hcell : ∀ j, j < 2 → wr.cell? ⟨g0, k * 2 + j, none⟩ = (l[k]).cells[j]? := by
            intro j hj
            rw [hownr.cellAt (k * 2 + j) (by omega)]
            exact pcCells_get l k j hlk hj
          have hpok := HOk.out l[k] (List.getElem_mem hlk)
          have hpp : ps[k] = (l[k]).pair := by
            have := HLP.out
            subst this
            simp
          obtain ⟨X, hX⟩ : ∃ X, X = l[k] := ⟨_, rfl⟩
          rw [← hX] at hpok hcell hpp
          clear hX hownr
          obtain ⟨ptag, pad, pcap, pins⟩ := X
          have q0 : wr.cell? ⟨g0, k * 2, none⟩ = some (.int .u8 (ptag.toNat : Int)) := hcell 0 (by omega)
          have q1 : wr.cell? ⟨g0, k * 2 + 1, none⟩ = some (.slice pad pins.length pcap) := hcell 1 (by omega)
          obtain ⟨ho1, ho2, ho3⟩ := hpok
          simp only at ho1 ho2 ho3
          have hws := wt_snoc hpk
          rw [hpp] at hws
          change Box.wt (ps.take (k + 1)) = Box.wt (ps.take k) + (pins.length + 2) at hws
          have hwt2 := wt_take ps (k + 1)
          have G2 := gb_trans G1 hgr
          have hI := ih (dn + 1) ptag pins pins.length pad pcap wr (by omega) (hid rfl) ho2 (by omega) (by omega) (by omega) (ho1 wr (hc.below G2)) (tab_grown htab G2)
          have HS : Hid (Box.tells (9 - (dn + 1)) (ps.take (k + 1)) = match Box.tells (9 - (dn + 1)) (ps.take k) with
            | none => none
            | some ts => (Box.pshow (9 - (dn + 1)) ptag pins).map fun t => ts ++ [t]) := by
            show _ = _
            rw [List.take_succ_eq_append_getElem hpk, Box.tells_snoc, hpp]
            rfl
          obtain ⟨ts, hts, hb⟩ := HT.out rfl
          have HB := hid hb
          have HLT : Hid (ts.length = k) := by
            show _ = _
            rw [Box.tells_length hts, List.length_take]
            omega
          rw [hts] at HS
          simp only at HS
          have HRest : Hid (Box.tells (9 - (dn + 1)) (ps.take (k + 1)) = none → Box.tells (9 - (dn + 1)) ps = none) := by
            intro h
            have := Box.tells_none (b := ps.drop (k + 1)) h
            rwa [List.take_append_drop] at this
          clear hcell hpp hts hb ho1 hlk hpk HT HF
          have hpc : ((dn + 1 : Nat) : Int) = (dn : Int) + 1 := by omega
          rw [hpc] at hI
          cases hps : Box.pshow (9 - (dn + 1)) ptag pins with
          | none =>
            have HP := hid hps
            rw [hps] at HS
            clear hps
            go_wp2_with fail
            refine hI.mono ?_
            rintro e w2 ⟨hs, hg2⟩
            obtain ⟨t, ht, rfl⟩ := hs.2 HP.out
            have G3 := gb_trans hgr hg2
            clear hI hs hg2
            have hx1 : b.size ≤ 100000 := by omega
            have hx2 : t.size ≤ 100000 := by omega
            by_cases hk1 : 0 < k
            · have hk1' : (0 : Int) < (k : Int) := by omega
              go_wp2
              go_roundw
              case rel =>
                refine ⟨false, k + 1, _, by omega, by go_num, rfl, rfl, G3, ?_, hid (fun h => by cases h), hid (fun _ => HRest.out (by rw [HS.out]; rfl))⟩
                simp [ByteArray.size_append]
                show b.size + 1 + t.size ≤ _
                omega
              case measure => simp [intOf]; omega
            · have hk1' : ¬ (0 : Int) < (k : Int) := by omega
              go_wp2
              go_roundw
              case rel =>
                refine ⟨false, k + 1, _, by omega, by go_num, rfl, rfl, G3, ?_, hid (fun h => by cases h), hid (fun _ => HRest.out (by rw [HS.out]; rfl))⟩
                simp [ByteArray.size_append]
                omega
              case measure => simp [intOf]; omega
          | some t =>
            have HP := hid hps
            have htl := Box.pshow_length _ _ _ _ hps
            rw [hps] at HS
            clear hps
            go_wp2_with fail
            refine hI.mono ?_
            rintro e w2 ⟨hs, hg2⟩
            obtain rfl := hs.1 t HP.out
            have G3 := gb_trans hgr hg2
            clear hI hs hg2
            obtain ⟨tb, HTB⟩ : ∃ tb : ByteArray, Hid ((⟨t.toArray⟩ : ByteArray) = tb) := ⟨_, rfl⟩
            have htb : tb.size = t.length := by rw [← HTB.out]; simp [ByteArray.size]
            rw [HTB.out]
            have hx1 : b.size ≤ 100000 := by omega
            have hx2 : tb.size ≤ 100000 := by omega
            by_cases hk1 : 0 < k
            · have hk1' : (0 : Int) < (k : Int) := by omega
              go_wp2
              go_roundw
              case rel =>
                refine ⟨true, k + 1, _, by omega, by go_num, rfl, rfl, G3, ?_, hid (fun _ => ⟨ts ++ [t], by rw [HS.out]; rfl, ?_⟩), hid (fun h => by cases h)⟩
                · simp [ByteArray.size_append]
                  show b.size + 1 + tb.size ≤ _
                  omega
                · have hne : ts ≠ [] := by intro h; have := HLT.out; rw [h] at this; simp at this; omega
                  rw [Box.commas_snoc, if_neg hne, HB.out, ← HTB.out]
                  refine ByteArray.ext (Array.toList_inj.1 ?_)
                  simp
              case measure => simp [intOf]; omega
            · have hk1' : ¬ (0 : Int) < (k : Int) := by omega
              go_wp2
              go_roundw
              case rel =>
                refine ⟨true, k + 1, _, by omega, by go_num, rfl, rfl, G3, ?_, hid (fun _ => ⟨ts ++ [t], by rw [HS.out]; rfl, ?_⟩), hid (fun h => by cases h)⟩
                · simp [ByteArray.size_append]
                  omega
                · have hne : ts = [] := List.eq_nil_of_length_eq_zero (by rw [HLT.out]; omega)
                  rw [Box.commas_snoc, if_pos hne, HB.out, ← HTB.out, hne]
                  refine ByteArray.ext (Array.toList_inj.1 ?_)
                  simp [Box.commas]
              case measure => simp [intOf]; omega
        · have hlt' : ¬ (k : Int) < (m : Int) := by omega
          have hkm : k = m := by omega
          obtain ⟨ts, hts, hb⟩ := HT.out rfl
          rw [List.take_of_length_le (by rw [← HLP.out, List.length_map, HLM.out]; omega)] at hts
          have HTS := hid hts
          have HB := hid hb
          have hbs2 : b.size ≤ 1 + 22 * n := by
            have := wt_take ps k
            omega
          have G2 := gb_trans G1 hgr
          clear HT HF hts hb
          by_cases h8 : dn ≤ 8
          · have h8' : (dn : Int) ≤ 8 := by omega
            have HY : Hid (Box.pshow (9 - dn) tag zs = some (123 :: Box.commas ts ++ [125])) := list_some H48.out h8 HCU.out HTS.out
            go_wp2
            go_ret2
            refine ⟨?_, G2⟩
            rw [HB.out]
            exact showSaid_yes HY.out
          · have h8' : ¬ (dn : Int) ≤ 8 := by omega
            have HN : Hid (Box.pshow (9 - dn) tag zs = none) := list_none H48.out (.inl (by omega))
            go_wp2
            go_ret2
            exact ⟨showSaid_no HN.out (by rw [hn.out]; simp [ByteArray.size_append]; show b.size + 1 ≤ _; omega), G2⟩

theorem show_all : ∀ L, ShowsBelow L := by
  intro L
  induction L with
  | zero => intro dn tag zs n ao cap w h; omega
  | succ L ih =>
    intro dn tag zs n ao cap w hL hn hcap hcm hd hdn hc htab
    by_cases h2 : tag.toNat = 2
    · exact show_num _ _ tag zs n ao cap w hn h2 hc htab
    · by_cases h4 : tag.toNat = 4
      · exact show_text _ _ tag zs n ao cap w hn (by omega) h4 hc
      · by_cases h48 : tag.toNat = 48
        · exact show_list L ih dn tag zs n ao cap w (by omega) hn hcap hcm hd hdn h48 hc htab
        · exact show_other _ _ tag zs w h2 h4 h48 ao n cap
end Go.Proofs.YtbanfbpfapjfcaaGreatDoor
namespace Go.Proofs.YtbanfbpfapjfcaaGreatDoor
open Go.RowKit
set_option maxRecDepth 100000

theorem showRes_none {l : List UInt8} (h : shown l = none) : showRes l = .tuple #[.string ⟨#[]⟩, .int .i64 2] := by rw [showRes, h]
theorem showRes_some {l t : List UInt8} (h : shown l = some t) : showRes l = .tuple #[.string ⟨t.toArray⟩, .int .i64 0] := by rw [showRes, h]
theorem shown_cut {l : List UInt8} (h : Box.cut l = none) : shown l = none := by
  rw [shown, Box.whole_eq, h]
  split <;> rfl
theorem shown_rest {l i : List UInt8} {tag a : UInt8} {r : List UInt8} (h : Box.cut l = some (tag, i, a :: r)) : shown l = none := by
  rw [shown, Box.whole_eq, h]
  split <;> rfl
theorem shown_long {l : List UInt8} (h : 300 < l.length) : shown l = none := by rw [shown, if_neg (by omega)]
theorem shown_one {l i : List UInt8} {tag : UInt8} (h : Box.cut l = some (tag, i, [])) (hl : l.length ≤ 300) : shown l = Box.pshow 8 tag i := by
  rw [shown, if_pos hl, Box.whole_eq, h]

set_option maxHeartbeats 2000000 in
theorem rShow_any (zs : List UInt8) (n : Nat) (ao : Option Addr) (cap : Nat) (w : World) (hn : Hid (zs.length = n)) (hl : n ≤ 140737488355328) (hcap : n ≤ cap) (hcm : cap ≤ 9223372036854775807) (hc : At w ao zs) (htab : TabHere w) :
    Calls Tryz.prog 74 #[.slice ao n cap] w fun e w' => e = .returned (showRes zs) ∧ w.grownBy w' none := by
  by_cases h2 : n < 2
  · have HS : Hid (showRes zs = .tuple #[.string ⟨#[]⟩, .int .i64 2]) := showRes_none (shown_cut (cut_short (by rw [hn.out]; exact h2)))
    go_enter Tryz.func74, Tryz.ntmps74
    go_wp2_with fail
    refine (first_short n ao cap _ h2).mono ?_
    rintro e w1 ⟨rfl, hg1⟩
    have G1 := gb_alloc hg1 (.cells zeroP 217)
    clear hg1
    go_wp2
    go_ret2
    exact ⟨by rw [HS.out]; rfl, G1⟩
  · obtain ⟨b, off, rfl, _⟩ := hc.addr (by rw [hn.out]; omega)
    have hF := first_any zs n b off cap w hn (by omega) hl hcap hcm hc
    cases hcu : Box.cut zs with
    | none =>
      have HS : Hid (showRes zs = .tuple #[.string ⟨#[]⟩, .int .i64 2]) := showRes_none (shown_cut hcu)
      rw [hcu] at hF
      clear hcu
      go_enter Tryz.func74, Tryz.ntmps74
      go_wp2_with fail
      refine hF.mono ?_
      rintro e w1 ⟨_, k2, hg1⟩
      obtain ⟨x, xa, xk, xc, rfl⟩ := k2 trivial
      have G1 := gb_alloc hg1 (.cells #[.int .u8 x, .slice xa xk xc] 217)
      clear hg1 hF k2
      go_wp2
      go_ret2
      exact ⟨by rw [HS.out]; rfl, G1⟩
    | some tr =>
      obtain ⟨tag, i, r⟩ := tr
      have hcl := Box.cut_length hcu
      rw [hn.out] at hcl
      cases r with
      | cons ra r =>
        have HS : Hid (showRes zs = .tuple #[.string ⟨#[]⟩, .int .i64 2]) := showRes_none (shown_rest hcu)
        obtain ⟨rl, hrl⟩ : ∃ rl, (ra :: r).length = rl := ⟨_, rfl⟩
        have hr : (0 : Int) < (rl : Int) := by rw [List.length_cons] at hrl; omega
        have HRL := hid hrl
        rw [hcu] at hF
        clear hcu hrl
        obtain ⟨rr, hrr⟩ : ∃ rr, rr = ra :: r := ⟨_, rfl⟩
        rw [← hrr] at hF hcl HRL
        clear hrr
        go_enter Tryz.func74, Tryz.ntmps74
        go_wp2_with fail
        refine hF.mono ?_
        rintro e w1 ⟨k1, _, hg1⟩
        obtain ⟨a1, c1, a2, c2, rfl, _, _, _, _, _, _⟩ := k1 tag i rr rfl
        have G1 := gb_alloc hg1 (.cells #[.int .u8 (tag.toNat : Int), .slice a1 i.length c1] 217)
        clear hg1 hF k1
        rw [HRL.out]
        go_wp2
        go_ret2
        exact ⟨by rw [HS.out]; rfl, G1⟩
      | nil =>
        by_cases h300 : 300 < n
        · have h300' : (300 : Int) < (n : Int) := by omega
          have HS : Hid (showRes zs = .tuple #[.string ⟨#[]⟩, .int .i64 2]) := showRes_none (shown_long (by rw [hn.out]; exact h300))
          rw [hcu] at hF
          clear hcu
          go_enter Tryz.func74, Tryz.ntmps74
          go_wp2_with fail
          refine hF.mono ?_
          rintro e w1 ⟨k1, _, hg1⟩
          obtain ⟨a1, c1, a2, c2, rfl, _, _, _, _, _, _⟩ := k1 tag i [] rfl
          have G1 := gb_alloc hg1 (.cells #[.int .u8 (tag.toNat : Int), .slice a1 i.length c1] 217)
          clear hg1 hF k1
          simp only [List.length_nil]
          go_wp2
          go_ret2
          exact ⟨by rw [HS.out]; rfl, G1⟩
        · have h300' : ¬ (300 : Int) < (n : Int) := by omega
          have HS : Hid (shown zs = Box.pshow (9 - 1) tag i) := shown_one hcu (by rw [hn.out]; omega)
          rw [hcu] at hF
          clear hcu
          go_enter Tryz.func74, Tryz.ntmps74
          go_wp2_with fail
          refine hF.mono ?_
          rintro e w1 ⟨k1, _, hg1⟩
          obtain ⟨a1, c1, a2, c2, rfl, hx1, hx2, hx3, _, _, _⟩ := k1 tag i [] rfl
          have G1 := gb_alloc hg1 (.cells #[.int .u8 (tag.toNat : Int), .slice a1 i.length c1] 217)
          have hSh := show_all (i.length + 1) 1 tag i i.length a1 c1 _ (by omega) (hid rfl) hx2 (by omega) (by omega) (by simp at hcl; omega) (hx1 _ (hc.below G1)) (tab_grown htab G1)
          clear hg1 hF k1 hx1
          simp only [List.length_nil]
          go_wp2_with fail
          refine hSh.mono ?_
          rintro e w2 ⟨hs, hg2⟩
          have G2 := gb_trans G1 hg2
          clear hSh hg2
          cases hps : Box.pshow (9 - 1) tag i with
          | none =>
            obtain ⟨s, _, rfl⟩ := hs.2 hps
            have HR : Hid (showRes zs = .tuple #[.string ⟨#[]⟩, .int .i64 2]) := showRes_none (by rw [HS.out, hps])
            clear hs hps
            go_wp2
            go_ret2
            exact ⟨by rw [HR.out]; rfl, G2⟩
          | some t =>
            obtain rfl := hs.1 t hps
            have HR : Hid (showRes zs = .tuple #[.string ⟨t.toArray⟩, .int .i64 0]) := showRes_some (by rw [HS.out, hps])
            clear hs hps
            go_wp2
            go_ret2
            exact ⟨by rw [HR.out]; rfl, G2⟩
end Go.Proofs.YtbanfbpfapjfcaaGreatDoor
namespace Go.Proofs.YtbanfbpfapjfcaaGreatDoor
open Go.RowKit
set_option maxRecDepth 100000

theorem gb_of_below {w w' : World} (h : Below w.heap.size w w') : w.grownBy w' none := ⟨h.os, h.tape, h.output, h.size, fun i hi _ => h.block i hi⟩

set_option maxHeartbeats 1000000 in
theorem free_show (wb : Nat) (kind B C : Int) (K D : UInt64) (zs : List UInt8) (c1 c6 c8 c9 c10 c11 c12 c13 c14 c15 c16 c17 c18 c19 c20 c21 c22 c23 c24 c25 c26 c27 c28 c29 c30 c31 c32 c33 c34 c35 c36 c37 c38 c39 c40 : Value) (w : World) (hk1 : (kind == 1) = false) (hk2 : (kind == 2) = false) (hk3 : (kind == 3) = false) (hk : (kind == 4) = true) (hl : zs.length ≤ 140737488351232) (htab : TabHere w) :
    Calls Tryz.prog 46 #[.pointer (some ⟨wb, 0, none⟩), .agg #[.int .i64 kind, c1, .int .i64 B, .int .i64 C, .int .u64 (K.toNat : Int), .int .u64 (D.toNat : Int), c6, .string ⟨zs.toArray⟩, c8, c9, c10, c11, c12, c13, c14, c15, c16, c17, c18, c19, c20, c21, c22, c23, c24, c25, c26, c27, c28, c29, c30, c31, c32, c33, c34, c35, c36, c37, c38, c39, c40]] w fun e w' => e = .returned (.bool true) ∧ w.grownBy w' none := by
  have hl2 : zs.length ≤ 140737488355328 := by omega
  have hO := OpAt.new w kind B C K D zs c1 c6 c8 c9 c10 c11 c12 c13 c14 c15 c16 c17 c18 c19 c20 c21 c22 c23 c24 c25 c26 c27 c28 c29 c30 c31 c32 c33 c34 c35 c36 c37 c38 c39 c40
  obtain ⟨st, ec, HSR⟩ : ∃ (st : ByteArray) (ec : Int), Hid (showRes zs = .tuple #[.string st, .int .i64 ec]) := by
    cases h : shown zs with
    | none => exact ⟨_, _, showRes_none h⟩
    | some t => exact ⟨_, _, showRes_some h⟩
  go_enter Tryz.func46, Tryz.ntmps46
  go_wp2_with fail
  refine (lent_all zs _ _ hl).mono ?_
  rintro e w1 ⟨a, cap, gB, rfl, hL, hg1⟩
  have hO1 := hO.grown hg1 (by simp)
  have G1 := gb_trans (World.grownBy_alloc w _ none) hg1
  have hold : ∀ j, some j = gB → w.heap.size + 1 ≤ j := fun j hj => by have := hL.old j hj; simpa using this
  have hgb : gB ≠ some w.heap.size := fun e => by have := hold _ e.symm; omega
  have hcp := hL.cap
  obtain ⟨hcp1, hcp2⟩ := hcp
  obtain ⟨k0, k2, k3, k4, k5, k7⟩ := hO1
  clear hO hg1
  go_wp2_with fail
  refine (wshow_any zs zs.length a cap _ (hid rfl) hcp1 hcp2 hL.at (tab_grown htab G1)).mono ?_
  rintro e w2 ⟨rfl, hb2⟩
  have hg2 := gb_of_below hb2
  have hL2 := hL.grown hg2
  have hO2 : OpAt w2 w.heap.size kind B C K D zs := OpAt.grown ⟨k0, k2, k3, k4, k5, k7⟩ hg2 (by simp)
  have G2 := gb_trans G1 hg2
  rw [HSR.out]
  clear k0 k2 k3 k4 k5 k7 hL G1 hg2 hb2
  obtain ⟨k0, k2, k3, k4, k5, k7⟩ := hO2
  go_wp2_with fail
  refine (back_all zs zs.length a cap gB _ _ (hid rfl) hl hL2).mono ?_
  rintro e w4 ⟨rfl, hg4⟩
  have hO4 : OpAt w4 w.heap.size kind B C K D zs := OpAt.grown ⟨k0, k2, k3, k4, k5, k7⟩ hg4 hgb
  have G4 : w.grownBy w4 none := gb_newer G2 hg4 (fun j hj => by have := hold j hj; omega)
  clear k0 k2 k3 k4 k5 k7 hg4 hL2 G2
  obtain ⟨k0, k2, k3, k4, k5, k7⟩ := hO4
  go_wp2_with (first | (refine wpList_bytes_of _ rfl _ 9 32 rfl 5 Tryz.underlying9 Tryz.underlying32 Tryz.underlying5 zs rfl hl2 ?_; intro b5 cap5 w5 hc5 hc5m hat5 hg5))
  have G5 := gb_trans G4 hg5
  refine (rShow_any zs zs.length _ cap5 _ (hid rfl) hl2 hc5 (by unfold maxLen at hc5m; exact hc5m) hat5 (tab_grown htab G5)).mono ?_
  rintro e w6 ⟨rfl, hg6⟩
  have G6 := gb_trans G5 hg6
  rw [HSR.out]
  clear k0 k2 k3 k4 k5 k7 hg5 hg6 G4 hat5 G5
  go_wp2
  go_ret
  exact ⟨rfl, G6⟩

set_option maxHeartbeats 1000000 in
theorem step_show (wb : Nat) (B C : Int) (K D : UInt64) (zs : List UInt8) (c1 c6 c8 c9 c10 c11 c12 c13 c14 c15 c16 c17 c18 c19 c20 c21 c22 c23 c24 c25 c26 c27 c28 c29 c30 c31 c32 c33 c34 c35 c36 c37 c38 c39 c40 : Value) (kind : Int) (w : World) (hk4 : kind = 4) (hl : zs.length ≤ 140737488351232) (htab : TabHere w) :
    Calls Tryz.prog 27 #[.pointer (some ⟨wb, 0, none⟩), .agg #[.int .i64 kind, c1, .int .i64 B, .int .i64 C, .int .u64 (K.toNat : Int), .int .u64 (D.toNat : Int), c6, .string ⟨zs.toArray⟩, c8, c9, c10, c11, c12, c13, c14, c15, c16, c17, c18, c19, c20, c21, c22, c23, c24, c25, c26, c27, c28, c29, c30, c31, c32, c33, c34, c35, c36, c37, c38, c39, c40]] w fun e w' => e = .returned (.bool true) ∧ w.grownBy w' none := by
  subst hk4
  have G := World.grownBy_alloc w (.cells ((#[.int .i64 4, c1, .int .i64 B, .int .i64 C, .int .u64 (K.toNat : Int), .int .u64 (D.toNat : Int), c6, .string ⟨zs.toArray⟩, c8, c9, c10, c11, c12, c13, c14, c15, c16, c17, c18, c19, c20, c21, c22, c23, c24, c25, c26, c27, c28, c29, c30, c31, c32, c33, c34, c35, c36, c37, c38, c39, c40] : Array Value)) 82) none
  have CC := free_show wb 4 B C K D zs c1 c6 c8 c9 c10 c11 c12 c13 c14 c15 c16 c17 c18 c19 c20 c21 c22 c23 c24 c25 c26 c27 c28 c29 c30 c31 c32 c33 c34 c35 c36 c37 c38 c39 c40 (w.alloc (.cells #[.int .i64 4, c1, .int .i64 B, .int .i64 C, .int .u64 (K.toNat : Int), .int .u64 (D.toNat : Int), c6, .string ⟨zs.toArray⟩, c8, c9, c10, c11, c12, c13, c14, c15, c16, c17, c18, c19, c20, c21, c22, c23, c24, c25, c26, c27, c28, c29, c30, c31, c32, c33, c34, c35, c36, c37, c38, c39, c40] 82)) rfl rfl rfl rfl hl (tab_grown htab G)
  have C2 : Calls Tryz.prog 46 #[.pointer (some ⟨wb, 0, none⟩), .agg #[.int .i64 4, c1, .int .i64 B, .int .i64 C, .int .u64 (K.toNat : Int), .int .u64 (D.toNat : Int), c6, .string ⟨zs.toArray⟩, c8, c9, c10, c11, c12, c13, c14, c15, c16, c17, c18, c19, c20, c21, c22, c23, c24, c25, c26, c27, c28, c29, c30, c31, c32, c33, c34, c35, c36, c37, c38, c39, c40]] (w.alloc (.cells #[.int .i64 4, c1, .int .i64 B, .int .i64 C, .int .u64 (K.toNat : Int), .int .u64 (D.toNat : Int), c6, .string ⟨zs.toArray⟩, c8, c9, c10, c11, c12, c13, c14, c15, c16, c17, c18, c19, c20, c21, c22, c23, c24, c25, c26, c27, c28, c29, c30, c31, c32, c33, c34, c35, c36, c37, c38, c39, c40] 82)) fun e w' => e = .returned (.bool true) ∧ w.grownBy w' none :=
    CC.mono fun e w' ⟨h1, h2⟩ => ⟨h1, gb_trans G h2⟩
  have hrow : (w.alloc (.cells #[.int .i64 4, c1, .int .i64 B, .int .i64 C, .int .u64 (K.toNat : Int), .int .u64 (D.toNat : Int), c6, .string ⟨zs.toArray⟩, c8, c9, c10, c11, c12, c13, c14, c15, c16, c17, c18, c19, c20, c21, c22, c23, c24, c25, c26, c27, c28, c29, c30, c31, c32, c33, c34, c35, c36, c37, c38, c39, c40] 82)).heap[w.heap.size]? = some (.cells #[.int .i64 4, c1, .int .i64 B, .int .i64 C, .int .u64 (K.toNat : Int), .int .u64 (D.toNat : Int), c6, .string ⟨zs.toArray⟩, c8, c9, c10, c11, c12, c13, c14, c15, c16, c17, c18, c19, c20, c21, c22, c23, c24, c25, c26, c27, c28, c29, c30, c31, c32, c33, c34, c35, c36, c37, c38, c39, c40] 82 (0, 0)) := heap_alloc_new w _
  clear G CC
  go_enter Tryz.func27, Tryz.ntmps27
  go_wp2_with (refine wpList_load_row rfl 82 _ rfl w.heap.size rfl 82 _ (0, 0) _ hrow Tryz.underlying82 rfl Tryz.size82 ?_)
  refine C2.mono ?_
  rintro e w' ⟨rfl, R⟩
  clear C2 hrow
  go_wp2
  go_ret
  exact ⟨rfl, R⟩
end Go.Proofs.YtbanfbpfapjfcaaGreatDoor
