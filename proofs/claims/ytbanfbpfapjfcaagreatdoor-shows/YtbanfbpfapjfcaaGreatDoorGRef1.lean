/-
  Contracts of the document's answer, its small functions: Hash, number64, same, eight, joined. Conditions: in each statement (where the bytes lie).
-/
import Derived.Test.YtbanfbpfapjfcaaGreatDoorGCalls
namespace Go.Proofs.YtbanfbpfapjfcaaGreatDoor
open Go.RowKit
set_option maxRecDepth 100000

set_option maxHeartbeats 400000 in
theorem rhash_any (zs : List UInt8) (n : Nat) (ao : Option Addr) (cap : Nat) (w : World) (hn : Hid (zs.length = n)) (hl : n ≤ 140737488355328) (hc : At w ao zs) :
    Calls Tryz.prog 70 #[.slice ao n cap] w fun e w' => e = .returned (.int .u64 ((Pure.hashL 0 zs).toNat : Int)) ∧ w = w' := by
  obtain rfl := hn.out
  go_enter Tryz.func70, Tryz.ntmps70
  go_wp2
  go_loop [3, 4] (fun hh i => ∃ k : Nat, k ≤ zs.length ∧ i = .int .i64 k ∧ hh = .int .u64 ((Pure.hashL 0 (zs.take k)).toNat : Int)) (fun _ i => zs.length - (intOf i).toNat)
  case atStart => exact ⟨0, Nat.zero_le _, rfl, rfl⟩
  case round =>
    obtain ⟨k, hk, rfl, rfl⟩ := hrel
    by_cases hlt : k < zs.length
    · obtain ⟨b, off, rfl, hck⟩ := hc k hlt
      clear hc
      go_wp2
      go_round
      case rel => exact ⟨k + 1, by omega, by go_num, val_u64 (by rw [take_snoc hlt, Pure.hashL_snoc]; exact step_int_div _ _)⟩
      case measure => simp [intOf]; omega
    · clear hc
      go_wp2
      go_ret
      exact ⟨ret_u64 (by rw [List.take_of_length_le (by omega)]), rfl⟩

set_option maxHeartbeats 400000 in
theorem rnumber_any (zs : List UInt8) (n : Nat) (ao : Option Addr) (cap : Nat) (w : World) (hn : Hid (zs.length = n)) (hl : n ≤ 140737488355328) (hc : At w ao zs) :
    Calls Tryz.prog 150 #[.slice ao n cap] w fun e w' => e = .returned (.int .u64 ((Pure.joinL 0 zs).toNat : Int)) ∧ w = w' := by
  obtain rfl := hn.out
  go_enter Tryz.func150, Tryz.ntmps150
  go_wp2
  go_loop [3, 4] (fun hh i => ∃ k : Nat, k ≤ zs.length ∧ i = .int .i64 k ∧ hh = .int .u64 ((Pure.joinL 0 (zs.take k)).toNat : Int)) (fun _ i => zs.length - (intOf i).toNat)
  case atStart => exact ⟨0, Nat.zero_le _, rfl, rfl⟩
  case round =>
    obtain ⟨k, hk, rfl, rfl⟩ := hrel
    by_cases hlt : k < zs.length
    · obtain ⟨b, off, rfl, hck⟩ := hc k hlt
      clear hc
      go_wp2
      go_round
      case rel => exact ⟨k + 1, by omega, by go_num, val_u64 (by rw [take_snoc hlt, Pure.joinL_snoc]; exact number_int _ _)⟩
      case measure => simp [intOf]; omega
    · clear hc
      go_wp2
      go_ret
      exact ⟨ret_u64 (by rw [List.take_of_length_le (by omega)]), rfl⟩

set_option maxHeartbeats 400000 in
theorem eight_own (v : UInt64) (w : World) :
    Calls Tryz.prog 148 #[.int .u64 (v.toNat : Int)] w fun e w' => ∃ o, e = .returned o ∧ w'.ownsRow w.heap.size 5 1 o 8 ((Pure.be v 8).map U8) ∧ w.grownBy w' none := by
  obtain ⟨i0, hi, hz0, hz1, hz2⟩ := info_parts Tryz.info5
  go_enter Tryz.func148, Tryz.ntmps148
  go_wp2
  go_loopw [3, 4] (fun o i wr => ∃ k : Nat, k ≤ 8 ∧ i = .int .i64 ((7 : Int) - k) ∧ wr.ownsRow w.heap.size 5 1 o k ((Pure.beTo v 8 k).map U8) ∧ w.grownBy wr none) (fun _ i _ => (intOf i + 1).toNat)
  case atStart => exact ⟨0, by omega, rfl, World.ownsRow_nil _ _ _ _, World.grownBy.refl _ _⟩
  case round =>
    obtain ⟨k, hk, rfl, hown, hgr⟩ := hrel
    have hsz := hgr.size
    by_cases hlt : k < 8
    · go_wp2_with (at_builtin; refine wpList_append_own _ rfl _ _ 32 rfl w.heap.size 5 i0 (.int .u8 0) 1 1 Tryz.underlying32 hi hz0 hz1 hz2 rfl (by decide) _ _ _ rfl (hown.alloc _) ⟨wr.heap.size, 0, none⟩ 1 1 ([Pure.byteAt v (7 - k)].map U8) rfl rfl ?c1 ?c2 ?c3 ?c4 ?c5 ?_)
      case c1 => exact byteAt_cells _ _ _ _
      case c2 => exact one_map _
      case c3 => unfold maxLen; omega
      case c4 => omega
      case c5 => simp; omega
      · intro v' w1 hown' hg1 _
        have R : w1.ownsRow w.heap.size 5 1 v' (k + 1) ((Pure.beTo v 8 (k + 1)).map U8) ∧ w.grownBy w1 none := ⟨by rw [Pure.beTo_succ, List.map_append]; exact hown', gb_row (gb_alloc hgr _) hg1 (fun i hi => (hown.lt i hi).1)⟩
        clear hown hown' hg1 hgr
        go_wp2
        go_roundw
        case rel => exact ⟨k + 1, by omega, by go_num, R.1, R.2⟩
        case measure => simp [intOf]; omega
    · have hk8 : k = 8 := by omega
      subst hk8
      go_wp2
      go_ret
      exact ⟨_, rfl, hown, hgr⟩

set_option maxHeartbeats 1000000 in
theorem rsame_any (xs ys : List UInt8) (n m : Nat) (ao bo : Option Addr) (ca cb : Nat) (w : World) (hn : Hid (xs.length = n)) (hm : Hid (ys.length = m)) (hl : n ≤ 140737488355328) (ha : At w ao xs) (hb : At w bo ys) :
    Calls Tryz.prog 151 #[.slice ao n ca, .slice bo m cb] w fun e w' => e = .returned (.bool (xs == ys)) ∧ w.grownBy w' none := by
  obtain rfl := hn.out
  obtain rfl := hm.out
  by_cases hlen : xs.length = ys.length
  · have HL : Hid (xs.length = ys.length) := hlen
    have hne : ((xs.length : Int) != (ys.length : Int)) = false := by rw [hlen]; simp
    clear hlen
    go_enter Tryz.func151, Tryz.ntmps151
    go_wp2
    go_loopw [5] (fun i wr => ∃ k : Nat, k ≤ xs.length ∧ i = .int .i64 k ∧ xs.take k = ys.take k ∧ w.grownBy wr none) (fun i _ => xs.length - (intOf i).toNat)
    case atStart => exact ⟨0, Nat.zero_le _, rfl, by simp, World.grownBy.refl _ _⟩
    case round =>
      obtain ⟨k, hk, rfl, htk, hgr⟩ := hrel
      have HT : Hid (xs.take k = ys.take k) := htk
      clear htk
      by_cases hlt : k < xs.length
      · have hlt2 : k < ys.length := by rw [← HL.out]; exact hlt
        obtain ⟨b, off, rfl, hck⟩ := (ha.below hgr) k hlt
        obtain ⟨b2, off2, rfl, hck2⟩ := (hb.below hgr) k hlt2
        clear ha hb
        by_cases he : xs[k] = ys[k]
        · have hq : (((xs[k]).toNat : Int) != ((ys[k]).toNat : Int)) = false := by rw [he]; simp
          have HE : Hid (xs[k] = ys[k]) := he
          clear he
          go_wp2_with fail
          go_quiet (fail)
          go_wp2
          go_roundw
          case rel => exact ⟨k + 1, by omega, by go_num, by rw [take_snoc hlt, take_snoc hlt2, HT.out, HE.out], gb_drewN hgr _⟩
          case measure => simp [intOf]; omega
        · have hq : (((xs[k]).toNat : Int) != ((ys[k]).toNat : Int)) = true := by
            rw [bne_iff_ne]; intro h; exact he (UInt8.toNat_inj.1 (by omega))
          have hf : (xs == ys) = false := by
            rw [beq_eq_false_iff_ne]; intro h; subst h; exact he rfl
          clear he
          go_wp2_with fail
          go_quiet (fail)
          go_wp2
          go_ret
          exact ⟨by rw [hf]; rfl, gb_drewN hgr _⟩
      · have ht : (xs == ys) = true := by
          have h := HT.out
          rw [List.take_of_length_le (by omega), List.take_of_length_le (by rw [← HL.out]; omega)] at h
          rw [h]; simp
        clear ha hb
        go_wp2
        go_ret
        exact ⟨by rw [ht]; rfl, hgr⟩
  · have hne : ((xs.length : Int) != (ys.length : Int)) = true := by rw [bne_iff_ne]; omega
    have hf : (xs == ys) = false := by rw [beq_eq_false_iff_ne]; intro h; exact hlen (by rw [h])
    clear hlen
    go_enter Tryz.func151, Tryz.ntmps151
    go_wp2
    go_ret
    exact ⟨rfl, World.grownBy.refl _ _⟩

/-- What is joined: slices of bytes, one behind the other, in a row of their own. -/
def Items (w : World) (b : Nat) (l : List (Option Addr × Nat × List UInt8)) : Prop :=
  ∀ j, (hj : j < l.length) → w.cell? ⟨b, j, none⟩ = some (.slice (l[j]).1 (l[j]).2.2.length (l[j]).2.1) ∧ At w (l[j]).1 (l[j]).2.2 ∧ ((l[j]).1 = none → (l[j]).2.1 = 0)
def cat (l : List (Option Addr × Nat × List UInt8)) : List UInt8 := (l.map fun x => x.2.2).flatten
theorem cat_snoc (l : List (Option Addr × Nat × List UInt8)) (k : Nat) (h : k < l.length) : cat (l.take (k + 1)) = cat (l.take k) ++ (l[k]).2.2 := by
  unfold cat
  rw [List.take_succ_eq_append_getElem h, List.map_append, List.flatten_append]
  simp only [List.map_cons, List.map_nil, List.flatten_cons, List.flatten_nil, List.append_nil]
theorem cat_le (l : List (Option Addr × Nat × List UInt8)) (k : Nat) : (cat (l.take k)).length ≤ (cat l).length := by
  conv => rhs; rw [← List.take_append_drop k l]
  unfold cat
  rw [List.map_append, List.flatten_append, List.length_append]
  omega
theorem Items.grown {w w' : World} {b : Nat} {l : List (Option Addr × Nat × List UInt8)} (h : Items w b l) (k : w.grownBy w' none) : Items w' b l := by
  intro j hj
  obtain ⟨h1, h2, h3⟩ := h j hj
  exact ⟨k.cell h1 (by simp), h2.below k, h3⟩

set_option maxHeartbeats 400000 in
theorem joined_any (b cap m : Nat) (l : List (Option Addr × Nat × List UInt8)) (w : World) (hm : Hid (l.length = m)) (hml : m ≤ 140737488355328) (hl : (cat l).length ≤ 140737488355328) (hi : Items w b l) :
    Calls Tryz.prog 149 #[.slice (some ⟨b, 0, none⟩) m cap] w fun e w' => ∃ o, e = .returned o ∧ w'.ownsRow w.heap.size 5 1 o (cat l).length ((cat l).map U8) ∧ w.grownBy w' none := by
  obtain ⟨i0, hif, hz0, hz1, hz2⟩ := info_parts Tryz.info5
  go_enter Tryz.func149, Tryz.ntmps149
  go_wp2
  go_loopw [3, 4] (fun o i wr => ∃ k : Nat, k ≤ m ∧ i = .int .i64 k ∧ wr.ownsRow w.heap.size 5 1 o (cat (l.take k)).length ((cat (l.take k)).map U8) ∧ w.grownBy wr none) (fun _ i _ => m - (intOf i).toNat)
  case atStart => exact ⟨0, by omega, rfl, World.ownsRow_nil _ _ _ _, World.grownBy.refl _ _⟩
  case round =>
    obtain ⟨k, hk, rfl, hown, hgr⟩ := hrel
    have hsz := hgr.size
    by_cases hlt : k < m
    · have hlt' : k < l.length := by rw [hm.out]; exact hlt
      obtain ⟨hc, hat, hnc⟩ := (hi.grown hgr) k hlt'
      have hle := cat_le l (k + 1)
      rw [cat_snoc l k hlt', List.length_append] at hle
      have hbd : (cat (l.take k)).length + ((l[k]).2.2).length ≤ 140737488355328 := by omega
      have HN : Hid ((l[k]).1 = none → (l[k]).2.1 = 0) := hnc
      clear hnc hle hi
      go_wp2_with (at_builtin; refine wpList_append_at _ rfl _ _ 32 rfl w.heap.size 5 i0 Tryz.underlying32 hif hz0 hz1 hz2 _ _ _ rfl hown _ _ _ ((l[k]).2.2) rfl rfl HN.out hat hbd hsz ?_)
      intro v' w1 hown' hg1 _
      have R : w1.ownsRow w.heap.size 5 1 v' (cat (l.take (k + 1))).length ((cat (l.take (k + 1))).map U8) ∧ w.grownBy w1 none := ⟨by rw [cat_snoc l k hlt', List.length_append, List.map_append]; exact hown', gb_row hgr hg1 (fun i hi => (hown.lt i hi).1)⟩
      clear hown hown' hg1 hgr hat hbd HN hc
      go_wp2
      go_roundw
      case rel => exact ⟨k + 1, by omega, by go_num, R.1, R.2⟩
      case measure => simp [intOf]; omega
    · have hkm : k = m := by omega
      subst hkm
      clear hi
      have hown2 : wr.ownsRow w.heap.size 5 1 u3 (cat l).length ((cat l).map U8) := by
        rw [List.take_of_length_le (by rw [hm.out]; omega)] at hown; exact hown
      clear hown
      go_wp2
      go_ret
      exact ⟨_, rfl, hown2, hgr⟩

theorem joined_n (b cap m : Nat) (l : List (Option Addr × Nat × List UInt8)) (J : List UInt8) (w : World) (hm : Hid (l.length = m)) (hJ : Hid (cat l = J)) (hml : m ≤ 140737488355328) (hl : J.length ≤ 140737488355328) (hi : Items w b l) :
    Calls Tryz.prog 149 #[.slice (some ⟨b, 0, none⟩) m cap] w fun e w' => ∃ o, e = .returned o ∧ w'.ownsRow w.heap.size 5 1 o J.length (J.map U8) ∧ w.grownBy w' none := by
  obtain rfl := hJ.out
  exact joined_any b cap m l w hm hml hl hi

end Go.Proofs.YtbanfbpfapjfcaaGreatDoor
