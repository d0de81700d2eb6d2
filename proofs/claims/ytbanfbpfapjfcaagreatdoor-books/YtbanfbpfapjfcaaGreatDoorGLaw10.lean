/-
  Contract of plays, for any list of kinds and any invariant that a step and a look keep. Conditions: the script's steps can be read.
  Contracts of the document's desk: isName, policy; of the law's pick. Conditions: in each statement.
-/
import Derived.Test.YtbanfbpfapjfcaaGreatDoorGRBoxJ
import Derived.Test.YtbanfbpfapjfcaaGreatDoorGWM
namespace Go.Proofs.YtbanfbpfapjfcaaGreatDoor
open Go.RowKit
set_option maxRecDepth 100000

theorem bsize (a : Array UInt8) : (ByteArray.mk a).size = a.size := rfl
/-- Is it one of the first so many kinds? -/
def isIn (ks : List Int) (k : Int) : Nat → Bool
  | 0 => false
  | j + 1 => isIn ks k j || (k == ks.getD j 0)
theorem isIn_mem {ks : List Int} {k : Int} : ∀ {j : Nat}, j ≤ ks.length → isIn ks k j = true → k ∈ ks := by
  intro j
  induction j with
  | zero => intro _ h; simp [isIn] at h
  | succ j ih =>
    intro hj h
    simp only [isIn, Bool.or_eq_true, beq_iff_eq] at h
    rcases h with h | h
    · exact ih (by omega) h
    · rw [h]
      have : ks.getD j 0 = ks[j] := by simp [List.getD, List.getElem?_eq_getElem (show j < ks.length by omega)]
      rw [this]
      exact List.getElem_mem _

/-- The script: each step's 41 cells, of which the first is its kind. -/
def StepsAt (Good : Int → Array Value → Prop) (w : World) (a : Option Addr) (n : Nat) : Prop :=
  ∀ i, i < n → ∃ b off, a = some ⟨b, off, none⟩ ∧ b < w.heap.size ∧ ∃ kind cs, cs.size = 41 ∧ cs[0]? = some (.int .i64 kind) ∧ Good kind cs ∧ ∀ j v, cs.toList[j]? = some v → w.cell? ⟨b, off + i * 41 + j, none⟩ = some v
theorem StepsAt.grown {Good : Int → Array Value → Prop} {w w' : World} {a : Option Addr} {n : Nat} (h : StepsAt Good w a n) (k : w.grownBy w' none) : StepsAt Good w' a n := by
  intro i hi
  obtain ⟨b, off, h1, h2, kind, cs, h3, h4, h5, h6⟩ := h i hi
  have s := k.size
  exact ⟨b, off, h1, by omega, kind, cs, h3, h4, h5, fun j v hv => k.cell (h6 j v hv) (by simp)⟩
theorem StepsAt.below {Good : Int → Array Value → Prop} {w w' : World} {a : Option Addr} {n : Nat} (h : StepsAt Good w a n) (k : Below w.heap.size w w') : StepsAt Good w' a n := h.grown (gb_of_below k)

abbrev world0 : Obj := .cells #[.slice none 0 0, .slice none 0 0, .slice none 0 0, .slice none 0 0, .slice none 0 0, .slice none 0 0] 74
/-- The script's first step, which the script does not bring. -/
abbrev opFirst (k0 : Int) (zs : List UInt8) : Array Value := #[.int .i64 k0, .int .i64 10, .int .i64 2, .int .i64 0, .int .u64 0, .int .u64 0, .int .i64 0, .string ⟨zs.toArray⟩, .int .i64 0, .string ⟨#[]⟩, .int .u64 0, .int .i64 0, .int .i64 0, .int .i64 0, .int .i64 0, .int .i64 0, .string ⟨#[]⟩, .string ⟨#[]⟩, .int .i64 0, .int .i64 0, .int .i64 0, .int .i64 0, .int .i64 0, .int .i64 0, .int .i64 0, .int .i64 0, .int .i64 0, .int .u64 0, .string ⟨#[]⟩, .int .i64 0, .int .i64 0, .int .i64 0, .int .i64 0, .int .i64 0, .int .i64 0, .string ⟨#[]⟩, .int .i64 0, .int .i64 0, .int .i64 0, .int .i64 0, .slice none 0 0]

set_option maxHeartbeats 2000000 in
theorem plays_gen (Good : Int → Array Value → Prop) (I : Nat → World → Prop) (ks : List Int) (k0 : Int) (m : Nat) (hm : Hid (ks.length = m)) (hm1 : 1 ≤ m) (hm2 : m ≤ 12) (hk0 : ks.getD 0 0 = k0) (a : Option Addr) (n cap kb : Nat) (w : World) (hs : StepsAt Good w a n) (hn : n ≤ 140737488355328) (hkb : kb < w.heap.size)
    (hq : ∀ j, j < m → w.cell? ⟨kb, j, none⟩ = some (.int .i64 (ks.getD j 0)))
    (hstart : ∀ wr, (w.alloc world0).grownBy wr none → I 0 wr)
    (hgood : ∀ zs : List UInt8, zs.length = 500 → Good k0 (opFirst k0 zs))
    (hstep : ∀ i wr kind cs, i ≤ n + 1 → I i wr → kind ∈ ks → cs.size = 41 → cs[0]? = some (.int .i64 kind) → Good kind cs → Calls Tryz.prog 27 #[.pointer (some ⟨w.heap.size, 0, none⟩), .agg cs] wr fun e w' => e = .returned (.bool true) ∧ I (i + 1) w')
    (hlooks : ∀ i wr, i ≤ n + 1 → I i wr → Calls Tryz.prog 28 #[.pointer (some ⟨w.heap.size, 2, none⟩)] wr fun e w' => e = .returned (.bool true) ∧ I i w')
    (hdrew : ∀ i wr q, I i wr → I i (wr.drewN q)) (hmore : ∀ i wr, I i wr → I (i + 1) wr) (hbelow : ∀ i wr, I i wr → Below w.heap.size w wr) :
    Calls Tryz.prog 13 #[.slice a n cap, .slice (some ⟨kb, 0, none⟩) m m] w fun e w' => e = .returned (.bool true) ∧ Below w.heap.size w w' := by
  have hk0m : k0 ∈ ks := by
    have h0 : 0 < ks.length := by rw [hm.out]; omega
    have : ks.getD 0 0 = ks[0] := by simp [List.getD, List.getElem?_eq_getElem h0]
    rw [← hk0, this]
    exact List.getElem_mem _
  have q0 := hq 0 (by omega)
  rw [hk0] at q0
  have hmI : (0 : Int) < (m : Int) := by omega
  clear hk0
  go_enter Tryz.func13, Tryz.ntmps13
  go_wp2
  go_loopw [6, 7] (fun s i wr => ∃ k : Nat, k ≤ 20 ∧ i = .int .i64 k ∧ (∃ b : ByteArray, s = .string b ∧ b.size = 25 * k) ∧ (w.alloc world0).grownBy wr none) (fun _ i _ => 20 - (intOf i).toNat)
  case atStart => exact ⟨0, by omega, rfl, ⟨_, rfl, rfl⟩, World.grownBy.refl _ _⟩
  case round =>
    obtain ⟨k, hk, rfl, ⟨s, rfl, hsz⟩, hgr⟩ := hrel
    by_cases hlt : k < 20
    · have HS : Hid (s.size = 25 * k) := hsz
      have hsb : s.size ≤ 500 := by omega
      clear hsz
      have hby : #[Value.int IntKind.u8 (97 + (k : Int))].toList = [UInt8.ofNat (97 + k)].map U8 := by
        simp only [List.map_cons, List.map_nil, U8]
        rw [UInt8.toNat_ofNat', Nat.mod_eq_of_lt (by omega), show (97 + (k : Int)) = ((97 + k : Nat) : Int) from by omega]
      have hcv := run_string_of (P := Tryz.prog) (wr.alloc (.cells #[.int .u8 (97 + (k : Int))] 5)) 32 9 5 Tryz.underlying32 Tryz.underlying5 Tryz.underlying9 (some ⟨wr.heap.size, 0, none⟩) 1 [UInt8.ofNat (97 + k)] (bytes_new wr 5 _ _ hby)
      simp only [List.length_cons, List.length_nil, Nat.zero_add] at hcv
      clear hby
      go_wp2
      go_roundw
      case rel => exact ⟨k + 1, by omega, by go_num, ⟨_, rfl, by simp [HS.out, bsize]; omega⟩, gb_alloc hgr _⟩
      case measure => simp [intOf]; omega
    · have hk20 : k = 20 := by omega
      subst hk20
      obtain ⟨zs, hzs⟩ : ∃ zs : List UInt8, s = ⟨zs.toArray⟩ := ⟨s.data.toList, by simp⟩
      subst hzs
      have hzl : zs.length = 500 := by
        have h : (⟨zs.toArray⟩ : ByteArray).size = zs.length := by simp [ByteArray.size]
        omega
      clear hsz hk hlt
      have Gw := gb_trans (World.grownBy_alloc w _ none) hgr
      have q0r := Gw.cell q0 (by simp)
      have CC := hstep 0 wr k0 (opFirst k0 zs) (by omega) (hstart wr hgr) hk0m rfl rfl (hgood zs hzl)
      clear hgr Gw
      go_wp2_with fail
      refine CC.mono ?_
      rintro e w2 ⟨rfl, hI2⟩
      clear CC q0r
      go_wp2
      obtain ⟨wo, hwo⟩ : ∃ wo, wo = wr := ⟨wr, rfl⟩
      subst hwo
      go_loopw [8, 9, 10, 11] (fun _ i _ _ wr => ∃ k : Nat, k ≤ n ∧ i = .int .i64 k ∧ I (k + 1) wr) (fun _ i _ _ _ => n - (intOf i).toNat)
      case atStart => exact ⟨0, Nat.zero_le _, rfl, hI2⟩
      case round =>
        obtain ⟨k, hk, rfl, hI⟩ := hrel
        have hB := hbelow _ _ hI
        by_cases hlt : k < n
        · obtain ⟨b, off, hab, _, kind, cs, hsize, hcs0, hgo, hcs⟩ := hs.below hB k hlt
          subst hab
          have hqk : ∀ j, j < m → wr.cell? ⟨kb, j, none⟩ = some (.int .i64 (ks.getD j 0)) := fun j hj => (hB.cell (p := ⟨kb, j, none⟩) hkb).trans (hq j hj)
          have hc0 : wr.cell? ⟨b, off + k * 41, none⟩ = some (.int .i64 kind) := hcs 0 _ (by rw [← hcs0]; simp)
          go_wp2
          obtain ⟨wi, hwi⟩ : ∃ wi, wi = wr := ⟨wr, rfl⟩
          subst hwi
          go_loopw [10, 11] (fun d i wr => ∃ j : Nat, j ≤ m ∧ i = .int .i64 j ∧ d = .bool (isIn ks kind j) ∧ ∃ q, wr = wi.drewN q) (fun _ i _ => m - (intOf i).toNat)
          case atStart => exact ⟨0, by omega, rfl, rfl, 0, rfl⟩
          case round =>
            obtain ⟨j, hj, rfl, rfl, q, rfl⟩ := hrel
            by_cases hj3 : j < m
            · have hck := hqk j hj3
              have hjI : (j : Int) < (m : Int) := by omega
              have hj0 : (0 : Int) ≤ (j : Int) := by omega
              obtain ⟨kj, hkj⟩ : ∃ kj, kj = ks.getD j 0 := ⟨_, rfl⟩
              have HKJ := hid hkj
              rw [← hkj] at hck
              clear hkj
              clear hqk hcs hI hB hs q0 hq hI2 hstep hlooks hstart hgood hdrew hmore hbelow hcs0
              cases hin : isIn ks kind j
              · have hsu : isIn ks kind (j + 1) = (kind == kj) := by rw [isIn, hin, HKJ.out]; rfl
                have HS := hid hsu
                clear hsu hin
                go_wp2_with fail
                go_quiet (fail)
                go_wp2
                go_roundw
                case rel => exact ⟨j + 1, by omega, by go_num, by rw [HS.out], ⟨_, rfl⟩⟩
                case measure => simp [intOf]; omega
              · have hsu : isIn ks kind (j + 1) = true := by rw [isIn, hin]; rfl
                have HS := hid hsu
                clear hsu hin
                go_wp2_with fail
                go_quiet (fail)
                go_wp2
                go_roundw
                case rel => exact ⟨j + 1, by omega, by go_num, by rw [HS.out], ⟨_, rfl⟩⟩
                case measure => simp [intOf]; omega
            · have hj33 : j = m := by omega
              subst hj33
              have hjI : ¬ (j : Int) < (j : Int) := by omega
              cases hin : isIn ks kind j
              · have R := hmore _ _ (hdrew _ _ q hI)
                clear hqk hcs hs q0 hI2 hq hstep hlooks hstart hgood hdrew hmore hbelow hI hB hcs0
                go_wp2
                go_roundw
                case rel => exact ⟨k + 1, by omega, by go_num, R⟩
                case measure => simp [intOf]; omega
              · have hkm : kind ∈ ks := isIn_mem (by rw [hm.out]; exact Nat.le_refl _) hin
                have CC := hstep (k + 1) (wi.drewN q) kind cs (by omega) (hdrew _ _ q hI) hkm hsize hcs0 hgo
                have LL := hlooks (k + 1 + 1)
                clear hin hqk hs q0 hI2 hq hstep hlooks hstart hgood hdrew hmore hbelow hI hB hcs0
                go_wp2_with (refine wpList_load_at rfl 82 _ rfl ⟨b, off + k * 41, none⟩ rfl cs _ ?l1 Tryz.underlying82 rfl (by rw [hsize]; exact Tryz.size82) ?_)
                case l1 => intro j v hv; exact hcs j v (by simpa using hv)
                clear hcs hc0
                refine CC.mono ?_
                rintro e w5 ⟨rfl, hI5⟩
                clear CC
                have L5 := LL w5 (by omega) hI5
                clear LL hI5
                go_wp2_with fail
                refine L5.mono ?_
                rintro e w6 ⟨rfl, hI6⟩
                clear L5
                go_wp2
                go_roundw
                case rel => exact ⟨k + 1, by omega, by go_num, hI6⟩
                case measure => simp [intOf]; omega
        · clear hs q0 hq hI2 hstep hlooks hstart hgood hdrew hmore hbelow
          go_wp2
          go_ret
          exact ⟨rfl, hB⟩
end Go.Proofs.YtbanfbpfapjfcaaGreatDoor
namespace Go.Proofs.YtbanfbpfapjfcaaGreatDoor
open Go.RowKit
set_option maxRecDepth 100000

theorem bget {S : ByteArray} {l : List UInt8} (hS : S = ⟨l.toArray⟩) (j : Nat) (h : j < S.size) : S[j]'h = l.getD j 0 := by
  subst hS
  have hj : j < l.length := by simpa [ByteArray.size] using h
  simp only [List.getD, List.getElem?_eq_getElem hj, Option.getD_some]
  rfl
set_option maxHeartbeats 1000000 in
theorem risName_any (l : List UInt8) (n : Nat) (S : ByteArray) (w : World) (hS : Hid (S = ⟨l.toArray⟩)) (hn : Hid (l.length = n)) (hl : n ≤ 9223372036854775807) :
    Calls Tryz.prog 110 #[.string S] w fun e w' => e = .returned (.bool (isNameL l)) ∧ w = w' := by
  have hsz : S.size = n := by rw [hS.out, ← hn.out]; simp [ByteArray.size]
  go_enter Tryz.func110, Tryz.ntmps110
  go_wp2
  go_loop [3] (fun i => ∃ k : Nat, k ≤ n ∧ i = .int .i64 k ∧ Hid ((l.take k).all isPart = true)) (fun i => n - (intOf i).toNat)
  case atStart => exact ⟨0, Nat.zero_le _, rfl, hid (by simp)⟩
  case round =>
    obtain ⟨k, hk, rfl, HA⟩ := hrel
    by_cases hlt : k < n
    · have hlt' : k < l.length := by rw [hn.out]; exact hlt
      have hgk := bget hS.out k
      have HNx := hid (all_take_succ hlt')
      rw [HA.out, Bool.true_and] at HNx
      have HBad : Hid (isPart (l.getD k 0) = false → isNameL l = false) := by
        intro h
        rw [isNameL]
        have : l.all isPart = false := by
          have hm : l.getD k 0 ∈ l := by
            rw [show l.getD k 0 = l[k] from by simp [List.getD, List.getElem?_eq_getElem hlt']]
            exact List.getElem_mem hlt'
          rw [List.all_eq_false]
          exact ⟨_, hm, by rw [h]; simp⟩
        rw [this, Bool.and_false]
      generalize l.getD k 0 = z at hgk HNx HBad
      have hz := z.toNat_lt
      have hkI : (k : Int) < (n : Int) := by omega
      have hk0 : (0 : Int) ≤ (k : Int) := by omega
      have HP : Hid (isPart z = decide ((97 ≤ z.toNat ∧ z.toNat ≤ 122) ∨ (48 ≤ z.toNat ∧ z.toNat ≤ 57) ∨ z.toNat = 47)) := rfl
      by_cases a1 : 97 ≤ z.toNat
      · have a1' : (97 : Int) ≤ (z.toNat : Int) := by omega
        by_cases a2 : z.toNat ≤ 122
        · have a2' : (z.toNat : Int) ≤ 122 := by omega
          have HY : Hid (isPart z = true) := by show _ = _; rw [HP.out]; exact decide_eq_true (by omega)
          go_wp2
          go_round
          case rel => exact ⟨k + 1, by omega, by go_num, by show _ = _; rw [HNx.out]; exact HY.out⟩
          case measure => simp [intOf]; omega
        · have a2' : ¬ (z.toNat : Int) ≤ 122 := by omega
          have HF := hid (HBad.out (by rw [HP.out]; exact decide_eq_false (by omega)))
          have b1 : ¬ (z.toNat : Int) ≤ 57 := by omega
          have b2 : ((z.toNat : Int) == 47) = false := by rw [beq_eq_false_iff_ne]; omega
          go_wp2
          go_ret
          exact ⟨by rw [HF.out]; rfl, rfl⟩
      · have a1' : ¬ (97 : Int) ≤ (z.toNat : Int) := by omega
        by_cases b1 : 48 ≤ z.toNat
        · have b1' : (48 : Int) ≤ (z.toNat : Int) := by omega
          by_cases b2 : z.toNat ≤ 57
          · have b2' : (z.toNat : Int) ≤ 57 := by omega
            have HY : Hid (isPart z = true) := by show _ = _; rw [HP.out]; exact decide_eq_true (by omega)
            go_wp2
            go_round
            case rel => exact ⟨k + 1, by omega, by go_num, by show _ = _; rw [HNx.out]; exact HY.out⟩
            case measure => simp [intOf]; omega
          · have b2' : ¬ (z.toNat : Int) ≤ 57 := by omega
            have HF := hid (HBad.out (by rw [HP.out]; exact decide_eq_false (by omega)))
            have b3 : ((z.toNat : Int) == 47) = false := by rw [beq_eq_false_iff_ne]; omega
            go_wp2
            go_ret
            exact ⟨by rw [HF.out]; rfl, rfl⟩
        · have b1' : ¬ (48 : Int) ≤ (z.toNat : Int) := by omega
          by_cases c1 : z.toNat = 47
          · have b3 : ((z.toNat : Int) == 47) = true := by rw [beq_iff_eq]; omega
            have HY : Hid (isPart z = true) := by show _ = _; rw [HP.out]; exact decide_eq_true (by omega)
            clear c1
            go_wp2
            go_round
            case rel => exact ⟨k + 1, by omega, by go_num, by show _ = _; rw [HNx.out]; exact HY.out⟩
            case measure => simp [intOf]; omega
          · have b3 : ((z.toNat : Int) == 47) = false := by rw [beq_eq_false_iff_ne]; omega
            have HF := hid (HBad.out (by rw [HP.out]; exact decide_eq_false (by omega)))
            go_wp2
            go_ret
            exact ⟨by rw [HF.out]; rfl, rfl⟩
    · have hkn : k = n := by omega
      subst hkn
      have hkI : ¬ (k : Int) < (k : Int) := by omega
      have HAll : Hid (l.all isPart = true) := by show _ = _; rw [← HA.out, List.take_of_length_le (by rw [hn.out]; exact Nat.le_refl _)]
      by_cases h1 : 1 ≤ k
      · have h1' : (1 : Int) ≤ (k : Int) := by omega
        by_cases h16 : k ≤ 16
        · have h16' : (k : Int) ≤ 16 := by omega
          have HR : Hid (isNameL l = true) := by show _ = _; rw [isNameL, HAll.out, hn.out, Bool.and_true]; exact decide_eq_true ⟨h1, h16⟩
          go_wp2
          go_ret
          exact ⟨by rw [HR.out]; rfl, rfl⟩
        · have h16' : ¬ (k : Int) ≤ 16 := by omega
          have HR : Hid (isNameL l = false) := by show _ = _; rw [isNameL, HAll.out, hn.out, Bool.and_true]; exact decide_eq_false (fun h => h16 h.2)
          go_wp2
          go_ret
          exact ⟨by rw [HR.out]; rfl, rfl⟩
      · have h1' : ¬ (1 : Int) ≤ (k : Int) := by omega
        have HR : Hid (isNameL l = false) := by show _ = _; rw [isNameL, HAll.out, hn.out, Bool.and_true]; exact decide_eq_false (fun h => h1 h.1)
        go_wp2
        go_ret
        exact ⟨by rw [HR.out]; rfl, rfl⟩

set_option maxHeartbeats 1000000 in
theorem rpolicy_any (a : Adm) (w : World) : Calls Tryz.prog 109 #[.agg a.cells] w fun e w' => e = .returned (.bool a.pol) ∧ w.grownBy w' none := by
  obtain ⟨ak, an, key, life, renew, expire, flags⟩ := a
  have HP : Hid (Adm.pol ⟨ak, an, key, life, renew, expire, flags⟩ = decide (0 ≤ life ∧ 0 ≤ renew ∧ 0 ≤ flags ∧ flags < 64)) := rfl
  simp only [Adm.cells]
  by_cases h1 : 0 ≤ life
  · by_cases h2 : 0 ≤ renew
    · by_cases h3 : 0 ≤ flags
      · by_cases h4 : flags < 64
        · have HD := hid (HP.out.trans (decide_eq_true ⟨h1, h2, h3, h4⟩))
          go_enter Tryz.func109, Tryz.ntmps109
          go_wp2
          go_ret
          exact ⟨by rw [HD.out]; rfl, World.grownBy_alloc w _ none⟩
        · have HD := hid (HP.out.trans (decide_eq_false (fun h => h4 h.2.2.2)))
          go_enter Tryz.func109, Tryz.ntmps109
          go_wp2
          go_ret
          exact ⟨by rw [HD.out]; rfl, World.grownBy_alloc w _ none⟩
      · have HD := hid (HP.out.trans (decide_eq_false (fun h => h3 h.2.2.1)))
        go_enter Tryz.func109, Tryz.ntmps109
        go_wp2
        go_ret
        exact ⟨by rw [HD.out]; rfl, World.grownBy_alloc w _ none⟩
    · have HD := hid (HP.out.trans (decide_eq_false (fun h => h2 h.2.1)))
      go_enter Tryz.func109, Tryz.ntmps109
      go_wp2
      go_ret
      exact ⟨by rw [HD.out]; rfl, World.grownBy_alloc w _ none⟩
  · have HD := hid (HP.out.trans (decide_eq_false (fun h => h1 h.1)))
    go_enter Tryz.func109, Tryz.ntmps109
    go_wp2
    go_ret
    exact ⟨by rw [HD.out]; rfl, World.grownBy_alloc w _ none⟩
end Go.Proofs.YtbanfbpfapjfcaaGreatDoor
