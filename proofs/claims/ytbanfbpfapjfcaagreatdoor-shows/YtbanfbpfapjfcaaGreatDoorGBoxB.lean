/-
  Contract of boxes.Cut. Conditions: in the statement.
-/
import Derived.Test.YtbanfbpfapjfcaaGreatDoorGBoxA
namespace Go.Proofs.YtbanfbpfapjfcaaGreatDoor
open Go.RowKit
set_option maxRecDepth 100000

theorem results_tmp4 {fn : Func} {t u v x : Tmp} (h : fn.results = #[.tmp t, .tmp u, .tmp v, .tmp x]) (tmps : Array Value) (P : Program) (w : World) :
    (results fn tmps).run P w = .ok (.tuple #[tmps.getD t undef, tmps.getD u undef, tmps.getD v undef, tmps.getD x undef]) w := by
  simp [results, h]

set_option maxHeartbeats 1000000 in
theorem cut_any (zs : List UInt8) (n : Nat) (ao : Option Addr) (cap : Nat) (w : World) (hn : Hid (zs.length = n)) (hl : n ≤ 140737488355328) (hcap : n ≤ cap) (hcm : cap ≤ 9223372036854775807) (hc : At w ao zs) :
    Calls Tryz.prog 200 #[.slice ao n cap] w fun e w' =>
      (∀ tag i r, Box.cut zs = some (tag, i, r) → ∃ a1 c1 a2 c2, e = .returned (.tuple #[.int .u8 (tag.toNat : Int), .slice a1 i.length c1, .slice a2 r.length c2, .bool true]) ∧ (∀ w0, At w0 ao zs → At w0 a1 i) ∧ i.length ≤ c1 ∧ c1 ≤ cap ∧ (∀ w0, At w0 ao zs → At w0 a2 r) ∧ r.length ≤ c2 ∧ c2 ≤ cap) ∧
      (Box.cut zs = none → e = .returned (.tuple #[.int .u8 0, .slice none 0 0, .slice none 0 0, .bool false])) ∧ ∃ m, w' = w.drewN m := by
  by_cases h1 : 1 ≤ n
  · have hp : 0 < zs.length := by rw [hn.out]; exact h1
    obtain ⟨b, off, rfl, hc0⟩ := hc 0 hp
    have E0 : Hid (zs.getD 0 0 = zs[0]) := by show _ = _; simp [List.getD, List.getElem?_eq_getElem hp]
    rw [Nat.add_zero] at hc0
    generalize hz0 : zs[0] = z0 at *
    clear hz0
    obtain ⟨i0, hi, hz0, hz1, hz2⟩ := info_parts Tryz.info5
    have hp1 : 0 < n := h1
    have hp2 : (0 : Int) < (n : Int) := by omega
    have hne : ((n : Int) == 0) = false := by rw [beq_eq_false_iff_ne]; omega
    obtain ⟨a1, hs1, hat1⟩ := slice_from 32 5 i0 Tryz.underlying32 hi hz1 (some ⟨b, off, none⟩) n cap hn hcap 1 1 rfl h1
    have HL1 : Hid ((zs.drop 1).length = n - 1) := by show _ = _; rw [List.length_drop, hn.out]
    have hcl := cutLen_any (zs.drop 1) (n - 1) a1 (cap - 1) w HL1 (by omega) (by omega) (by omega) (hat1 _ hc)
    have h0 : ¬ zs.length = 0 := by omega
    cases hcu : Box.cutLen (zs.drop 1) with
    | none =>
      have hcut : Box.cut zs = none := by rw [Box.cut, if_neg h0, hcu]
      have HC := hid hcut
      rw [hcu] at hcl
      clear hc hcut hcu h0 hp
      go_enter Tryz.func200, Tryz.ntmps200
      go_wp2_with (go_at_call 248; refine hcl.mono ?_; rintro e w' ⟨_, h2, m, rfl⟩; obtain ⟨v, v', rfl⟩ := h2 rfl)
      (try simp only [Exit.inBlock, Exit.then])
      refine bodyPost_ret (results_tmp4 rfl _ _ _) rfl ?_
      exact ⟨fun tag i r h => by rw [HC.out] at h; simp at h, fun _ => rfl, ⟨_, rfl⟩⟩
    | some kr =>
      obtain ⟨k, r⟩ := kr
      have hrl := Box.cutLen_length hcu
      rw [HL1.out] at hrl
      by_cases hk : k ≤ r.length
      · have hcut : Box.cut zs = some (z0, r.take k, r.drop k) := by rw [Box.cut, if_neg h0, hcu]; simp only [if_pos hk, E0.out]
        have HC := hid hcut
        rw [hcu] at hcl
        clear hc hcut hcu h0 hp
        obtain ⟨rl, hrl'⟩ : ∃ rl, rl = r.length := ⟨_, rfl⟩
        rw [← hrl'] at hrl hk
        have hk2 : ¬ ((rl : Int) < (k : Int)) := by omega
        have HRL : Hid (r.length = rl) := hrl'.symm
        clear hrl'
        go_enter Tryz.func200, Tryz.ntmps200
        go_wp2_with fail
        refine hcl.mono ?_
        rintro e w' ⟨h2, _, m, rfl⟩
        obtain ⟨a', c', rfl, hat', hc1, hc2⟩ := h2 k r rfl
        rw [HRL.out] at hc1 ⊢
        obtain ⟨b1, ht1, hbt1⟩ := slice_to 32 5 i0 Tryz.underlying32 hi hz1 a' rl c' HRL hc1 k k rfl hk
        obtain ⟨b2, ht2, hbt2⟩ := slice_from 32 5 i0 Tryz.underlying32 hi hz1 a' rl c' HRL hc1 k k rfl hk
        clear hcl h2 hs1
        go_wp2_with fail
        go_quiet (fail)
        go_wp2
        (try simp only [Exit.inBlock, Exit.then])
        refine bodyPost_ret (results_tmp4 rfl _ _ _) rfl ?_
        refine ⟨fun tag i r' h => ?_, (fun h => by rw [HC.out] at h; simp at h), ⟨m + nq, by rw [World.drewN_drewN]⟩⟩
        rw [HC.out] at h
        simp only [Option.some.injEq, Prod.mk.injEq] at h
        obtain ⟨rfl, rfl, rfl⟩ := h
        refine ⟨b1, c', b2, c' - k, ?_, fun w0 h0 => hbt1 w0 (hat' w0 (hat1 w0 h0)), ?_, by omega, fun w0 h0 => hbt2 w0 (hat' w0 (hat1 w0 h0)), ?_, by omega⟩
        · rw [List.length_take, List.length_drop, HRL.out, Nat.min_eq_left hk]
          rfl
        · rw [List.length_take]; omega
        · rw [List.length_drop, HRL.out]; omega
      · have hcut : Box.cut zs = none := by rw [Box.cut, if_neg h0, hcu]; simp only [if_neg hk]
        have HC := hid hcut
        rw [hcu] at hcl
        clear hc hcut hcu h0 hp
        have hk2 : ((r.length : Int) < (k : Int)) := by omega
        go_enter Tryz.func200, Tryz.ntmps200
        go_wp2_with fail
        refine hcl.mono ?_
        rintro e w' ⟨h2, _, m, rfl⟩
        obtain ⟨a', c', rfl, hat', hc1, hc2⟩ := h2 k r rfl
        clear hcl h2 hs1
        go_wp2_with fail
        (try simp only [Exit.inBlock, Exit.then])
        refine bodyPost_ret (results_tmp4 rfl _ _ _) rfl ?_
        exact ⟨fun tag i r h => by rw [HC.out] at h; simp at h, fun _ => rfl, ⟨_, rfl⟩⟩
  · have n0 : n = 0 := by omega
    subst n0
    have hcut : Box.cut zs = none := by rw [Box.cut, if_pos hn.out]
    have HC := hid hcut
    clear hc hcut
    go_enter Tryz.func200, Tryz.ntmps200
    go_wp2
    (try simp only [Exit.inBlock, Exit.then])
    refine bodyPost_ret (results_tmp4 rfl _ _ _) rfl ?_
    exact ⟨fun tag i r h => by rw [HC.out] at h; simp at h, fun _ => rfl, ⟨0, rfl⟩⟩
end Go.Proofs.YtbanfbpfapjfcaaGreatDoor
