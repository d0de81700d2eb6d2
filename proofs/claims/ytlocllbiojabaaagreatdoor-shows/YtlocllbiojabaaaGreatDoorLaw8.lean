/-
  Contract of plays for the kinds Hash, Seal and Unseal: every answer is the document's, and the lists that came out stay their owner's. Conditions: the script's steps can be read.
-/
import Derived.Test.YtlocllbiojabaaaGreatDoorLaw7
namespace Go.Proofs.YtlocllbiojabaaaGreatDoor
open Go.RowKit
set_option maxRecDepth 100000

/-- A step of the script, as its cells lie from the address on. -/
def StepAt (w : World) (b off : Nat) (kind : Int) : Prop :=
  ∃ (B C : Int) (K D : UInt64) (zs : List UInt8) (c1 c6 c8 c9 c10 c11 c12 c13 c14 c15 c16 c17 c18 c19 c20 c21 c22 c23 c24 c25 c26 c27 c28 c29 c30 c31 c32 c33 c34 c35 c36 c37 c38 c39 c40 : Value), zs.length ≤ 140737488351232 ∧ ∀ j v, (#[.int .i64 kind, c1, .int .i64 B, .int .i64 C, .int .u64 (K.toNat : Int), .int .u64 (D.toNat : Int), c6, .string ⟨zs.toArray⟩, c8, c9, c10, c11, c12, c13, c14, c15, c16, c17, c18, c19, c20, c21, c22, c23, c24, c25, c26, c27, c28, c29, c30, c31, c32, c33, c34, c35, c36, c37, c38, c39, c40] : Array Value).toList[j]? = some v → w.cell? ⟨b, off + j, none⟩ = some v
/-- The script. -/
def ScriptAt (w : World) (a : Option Addr) (n : Nat) : Prop := ∀ i, i < n → ∃ b off, a = some ⟨b, off, none⟩ ∧ b < w.heap.size ∧ ∃ kind, StepAt w b (off + i * 41) kind

theorem ScriptAt.below {w w' : World} {a : Option Addr} {n : Nat} (h : ScriptAt w a n) (k : Below w.heap.size w w') : ∀ i, i < n → ∃ b off, a = some ⟨b, off, none⟩ ∧ ∃ kind, StepAt w' b (off + i * 41) kind := by
  intro i hi
  obtain ⟨b, off, h1, h2, kind, B, C, K, D, zs, c1, c6, c8, c9, c10, c11, c12, c13, c14, c15, c16, c17, c18, c19, c20, c21, c22, c23, c24, c25, c26, c27, c28, c29, c30, c31, c32, c33, c34, c35, c36, c37, c38, c39, c40, h3, h4⟩ := h i hi
  exact ⟨b, off, h1, kind, B, C, K, D, zs, c1, c6, c8, c9, c10, c11, c12, c13, c14, c15, c16, c17, c18, c19, c20, c21, c22, c23, c24, c25, c26, c27, c28, c29, c30, c31, c32, c33, c34, c35, c36, c37, c38, c39, c40, h3, fun j v hv => (k.cell (p := ⟨b, off + i * 41 + j, none⟩) h2).trans (h4 j v hv)⟩

theorem bsize (a : Array UInt8) : (ByteArray.mk a).size = a.size := rfl

def isKind (k : Int) : Nat → Bool
  | 0 => false
  | j + 1 => isKind k j || (k == ((j : Int) + 1))
theorem isKind_three {k : Int} (h : isKind k 3 = true) : k = 1 ∨ k = 2 ∨ k = 3 := by
  simp [isKind] at h
  omega

set_option maxHeartbeats 1000000 in
theorem plays_any (a : Option Addr) (n cap kb : Nat) (w : World) (hs : ScriptAt w a n) (hn : (2 * n + 4) * 104 ≤ 140737488355328) (hkb : kb < w.heap.size) (q0 : w.cell? ⟨kb, 0, none⟩ = some (.int .i64 1)) (q1 : w.cell? ⟨kb, 1, none⟩ = some (.int .i64 2)) (q2 : w.cell? ⟨kb, 2, none⟩ = some (.int .i64 3)) :
    Calls Tryz.prog 7 #[.slice a n cap, .slice (some ⟨kb, 0, none⟩) 3 3] w fun e w' => e = .returned (.bool true) ∧ Below w.heap.size w w' := by
  go_enter Tryz.func7, Tryz.ntmps7
  go_wp2
  go_loopw [6, 7] (fun s i wr => ∃ k : Nat, k ≤ 20 ∧ i = .int .i64 k ∧ (∃ b : ByteArray, s = .string b ∧ b.size = 25 * k) ∧ (w.alloc (.cells #[.slice none 0 0, .slice none 0 0, .slice none 0 0, .slice none 0 0, .slice none 0 0, .slice none 0 0] 36)).grownBy wr none) (fun _ i _ => 20 - (intOf i).toNat)
  case atStart => exact ⟨0, by omega, rfl, ⟨_, rfl, rfl⟩, World.grownBy.refl _ _⟩
  case round =>
    obtain ⟨k, hk, rfl, ⟨s, rfl, hsz⟩, hgr⟩ := hrel
    by_cases hlt : k < 20
    · have HS : Hid (s.size = 25 * k) := hsz
      have hsb : s.size ≤ 500 := by omega
      clear hsz
      have hby : #[Value.int IntKind.u8 (97 + (k : Int))].toList = [UInt8.ofNat (97 + k)].map U8 := by
        simp only [List.map_cons, List.map_nil, U8]
        rw [UInt8.toNat_ofNat', Nat.mod_eq_of_lt (by omega), show (97 + (k : Int)) = ((97 + k : Nat) : Int) from by omega]
      have hcv := run_string_of (P := Tryz.prog) (wr.alloc (.cells #[.int .u8 (97 + (k : Int))] 5)) 37 9 5 Tryz.underlying37 Tryz.underlying5 Tryz.underlying9 (some ⟨wr.heap.size, 0, none⟩) 1 [UInt8.ofNat (97 + k)] (bytes_new wr 5 _ _ hby)
      simp only [List.length_cons, List.length_nil, Nat.zero_add] at hcv
      clear hby
      go_wp2
      go_roundw
      case rel => exact ⟨k + 1, by omega, by go_num, ⟨_, rfl, by simp [HS.out, bsize]; omega⟩, gb_alloc hgr _⟩
      case measure => simp [intOf]; omega
    · have hk20 : k = 20 := by omega
      subst hk20
      obtain ⟨zs, hzs⟩ : ∃ zs : List UInt8, s = ⟨zs.toArray⟩ := ⟨s.data.toList, by simp⟩
      subst hzs
      have hzl : zs.length ≤ 140737488351232 := by have h : (⟨zs.toArray⟩ : ByteArray).size = zs.length := by simp [ByteArray.size]
                                                   omega
      clear hsz hk hlt
      have Gw := gb_trans (World.grownBy_alloc w _ none) hgr
      have q0r := Gw.cell q0 (by simp)
      have hI0 : Inv w.heap.size w.heap.size wr [] (.slice none 0 0) := by
        refine ⟨(hgr.block w.heap.size (by simp) (by simp)).trans (heap_alloc_new w _), World.ownsRow_nil _ _ _ _, by simp [Value.ownBlock], by simp, Nat.le_refl _⟩
      have hsz0 := Gw.size
      have B0 := gb_below Gw
      clear hgr
      go_wp2_with fail
      refine (step_any w.heap.size w.heap.size [] (.slice none 0 0) 1 2 0 0 0 zs (.int .i64 10) (.int .i64 0) (.int .i64 0) (.string ⟨#[]⟩) (.int .u64 0) (.int .i64 0) (.int .i64 0) (.int .i64 0) (.int .i64 0) (.int .i64 0) (.string ⟨#[]⟩) (.string ⟨#[]⟩) (.int .i64 0) (.int .i64 0) (.int .i64 0) (.int .i64 0) (.int .i64 0) (.int .i64 0) (.int .i64 0) (.int .i64 0) (.int .i64 0) (.int .u64 0) (.string ⟨#[]⟩) (.int .i64 0) (.int .i64 0) (.int .i64 0) (.int .i64 0) (.int .i64 0) (.int .i64 0) (.string ⟨#[]⟩) (.int .i64 0) (.int .i64 0) (.int .i64 0) (.int .i64 0) (.slice none 0 0) wr (hid (.inl rfl)) hzl hI0 hsz0 (by simp)).mono ?_
      rintro e w2 ⟨rfl, T2⟩
      obtain ⟨⟨l2, vb2, hI2, hl2⟩, B2⟩ := T2
      have B2' := B0.trans B2
      clear hI0 B0 B2 q0r Gw
      go_wp2
      obtain ⟨wo, hwo⟩ : ∃ wo, wo = wr := ⟨wr, rfl⟩
      subst hwo
      go_loopw [8, 9, 10, 11] (fun _ i _ _ wr => ∃ k : Nat, k ≤ n ∧ i = .int .i64 k ∧ (∃ l vb, Inv w.heap.size w.heap.size wr l vb ∧ l.length ≤ 2 * k + 2) ∧ Below w.heap.size w wr) (fun _ i _ _ _ => n - (intOf i).toNat)
      case atStart => exact ⟨0, Nat.zero_le _, rfl, ⟨l2, vb2, hI2, by simpa using hl2⟩, B2'⟩
      case round =>
        obtain ⟨k, hk, rfl, ⟨l, vb, hI, hll⟩, hB⟩ := hrel
        by_cases hlt : k < n
        · obtain ⟨b, off, hab, kind, hstep⟩ := hs.below hB k hlt
          subst hab
          have qk0 := (hB.cell (p := ⟨kb, 0, none⟩) hkb).trans q0
          have qk1 := (hB.cell (p := ⟨kb, 1, none⟩) hkb).trans q1
          have qk2 := (hB.cell (p := ⟨kb, 2, none⟩) hkb).trans q2
          obtain ⟨B, C, K, D, ys, c1, c6, c8, c9, c10, c11, c12, c13, c14, c15, c16, c17, c18, c19, c20, c21, c22, c23, c24, c25, c26, c27, c28, c29, c30, c31, c32, c33, c34, c35, c36, c37, c38, c39, c40, hyl, hcs⟩ := hstep
          have hc0 : wr.cell? ⟨b, off + k * 41, none⟩ = some (.int .i64 kind) := hcs 0 _ rfl
          go_wp2
          obtain ⟨wi, hwi⟩ : ∃ wi, wi = wr := ⟨wr, rfl⟩
          subst hwi
          go_loopw [10, 11] (fun d i wr => ∃ j : Nat, j ≤ 3 ∧ i = .int .i64 j ∧ d = .bool (isKind kind j) ∧ ∃ q, wr = wi.drewN q) (fun _ i _ => 3 - (intOf i).toNat)
          case atStart => exact ⟨0, by omega, rfl, rfl, 0, rfl⟩
          case round =>
            obtain ⟨j, hj, rfl, rfl, q, rfl⟩ := hrel
            by_cases hj3 : j < 3
            · have hck : wi.cell? ⟨kb, j, none⟩ = some (.int .i64 ((j : Int) + 1)) := by
                match j, hj3 with
                | 0, _ => exact qk0
                | 1, _ => exact qk1
                | 2, _ => exact qk2
              clear qk0 qk1 qk2 hcs hI hB hs q0 q1 q2 hI2 B2'
              cases hin : isKind kind j
              · have hsu : isKind kind (j + 1) = (kind == ((j : Int) + 1)) := by rw [isKind, hin]; rfl
                have HS := hid hsu
                clear hsu hin
                go_wp2_with fail
                go_quiet (fail)
                go_wp2
                go_roundw
                case rel => exact ⟨j + 1, by omega, by go_num, by rw [HS.out], ⟨_, rfl⟩⟩
                case measure => simp [intOf]; omega
              · have hsu : isKind kind (j + 1) = true := by rw [isKind, hin]; rfl
                have HS := hid hsu
                clear hsu hin
                go_wp2_with fail
                go_quiet (fail)
                go_wp2
                go_roundw
                case rel => exact ⟨j + 1, by omega, by go_num, by rw [HS.out], ⟨_, rfl⟩⟩
                case measure => simp [intOf]; omega
            · have hj33 : j = 3 := by omega
              subst hj33
              cases hin : isKind kind 3
              · clear qk0 qk1 qk2 hcs hs q0 q1 q2 hI2 B2'
                go_wp2
                go_roundw
                case rel => exact ⟨k + 1, by omega, by go_num, ⟨l, vb, hI, by omega⟩, below_drewN hB q⟩
                case measure => simp [intOf]; omega
              · have hk3 := hid (isKind_three hin)
                clear hin
                clear qk0 qk1 qk2 hs q0 q1 q2 hI2 B2'
                go_wp2_with (refine wpList_load_at rfl 48 _ rfl ⟨b, off + k * 41, none⟩ rfl #[.int .i64 kind, c1, .int .i64 B, .int .i64 C, .int .u64 (K.toNat : Int), .int .u64 (D.toNat : Int), c6, .string ⟨ys.toArray⟩, c8, c9, c10, c11, c12, c13, c14, c15, c16, c17, c18, c19, c20, c21, c22, c23, c24, c25, c26, c27, c28, c29, c30, c31, c32, c33, c34, c35, c36, c37, c38, c39, c40] _ ?l1 Tryz.underlying48 rfl Tryz.size48 ?_)
                case l1 => intro j v hv; exact hcs j v hv
                have hIq := hI.grown (gb_drewN (World.grownBy.refl wi none) q)
                have hBq := below_drewN hB q
                have hszq := hBq.size
                have hllq : (l.length + 2) * 104 ≤ 140737488355328 := by omega
                have CC := step_any w.heap.size w.heap.size l vb kind B C K D ys c1 c6 c8 c9 c10 c11 c12 c13 c14 c15 c16 c17 c18 c19 c20 c21 c22 c23 c24 c25 c26 c27 c28 c29 c30 c31 c32 c33 c34 c35 c36 c37 c38 c39 c40 (wi.drewN q) hk3 hyl hIq hszq hllq
                clear hcs hI hIq hc0
                refine CC.mono ?_
                rintro e w5 ⟨rfl, T5⟩
                clear CC
                obtain ⟨⟨l5, vb5, hI5, hl5⟩, B5⟩ := T5
                have B5' := hBq.trans B5
                have hll5 : l5.length ≤ 140737488355328 := by omega
                clear B5 hBq hB
                go_wp2_with fail
                refine (looks_any w.heap.size w.heap.size l5 vb5 _ hI5 hll5).mono ?_
                rintro e w6 ⟨rfl, hg6⟩
                have R : Inv w.heap.size w.heap.size w6 l5 vb5 ∧ Below w.heap.size w w6 := ⟨hI5.grown hg6, B5'.trans (below_gb hg6 (by have := B5'.size; omega))⟩
                clear hI5 hg6 B5'
                go_wp2
                go_roundw
                case rel => exact ⟨k + 1, by omega, by go_num, ⟨l5, vb5, R.1, by omega⟩, R.2⟩
                case measure => simp [intOf]; omega
        · clear hs q0 q1 q2 hI2
          go_wp2
          go_ret
          exact ⟨rfl, hB⟩

theorem ScriptAt.grown {w w' : World} {a : Option Addr} {n : Nat} (h : ScriptAt w a n) (k : w.grownBy w' none) : ScriptAt w' a n := by
  intro i hi
  obtain ⟨b, off, h1, h2, kind, B, C, K, D, zs, c1, c6, c8, c9, c10, c11, c12, c13, c14, c15, c16, c17, c18, c19, c20, c21, c22, c23, c24, c25, c26, c27, c28, c29, c30, c31, c32, c33, c34, c35, c36, c37, c38, c39, c40, h3, h4⟩ := h i hi
  have s := k.size
  exact ⟨b, off, h1, by omega, kind, B, C, K, D, zs, c1, c6, c8, c9, c10, c11, c12, c13, c14, c15, c16, c17, c18, c19, c20, c21, c22, c23, c24, c25, c26, c27, c28, c29, c30, c31, c32, c33, c34, c35, c36, c37, c38, c39, c40, h3, fun j v hv => k.cell (h4 j v hv) (by simp)⟩

set_option maxHeartbeats 400000 in
theorem seals_any (a : Option Addr) (n cap : Nat) (w : World) (hs : ScriptAt w a n) (hn : (2 * n + 4) * 104 ≤ 140737488355328) :
    Calls Tryz.prog 3 #[.slice a n cap] w fun e w' => e = .returned (.bool true) ∧ Below w.heap.size w w' := by
  have G := World.grownBy_alloc w (.cells #[.int .i64 1, .int .i64 2, .int .i64 3] 3) none
  have CC := plays_any a n cap w.heap.size (w.alloc (.cells #[.int .i64 1, .int .i64 2, .int .i64 3] 3)) (hs.grown G) hn (by simp) (by rw [World.cell?_alloc_at (hn := rfl)]; rfl) (by rw [World.cell?_alloc_at (hn := rfl)]; rfl) (by rw [World.cell?_alloc_at (hn := rfl)]; rfl)
  clear hs
  go_enter Tryz.func3, Tryz.ntmps3
  go_wp2_with fail
  refine CC.mono ?_
  rintro e w1 ⟨rfl, B⟩
  clear CC
  go_wp2
  go_ret
  exact ⟨rfl, (gb_below G).trans (B.mono (by simp))⟩

end Go.Proofs.YtlocllbiojabaaaGreatDoor
