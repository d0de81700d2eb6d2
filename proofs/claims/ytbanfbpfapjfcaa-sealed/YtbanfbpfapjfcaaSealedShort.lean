/-
  Contract of Sealed where the plain has at most 200 bytes: it returns true, and no memory that was there is written. Conditions: none beside the length.
-/
import Derived.Test.YtbanfbpfapjfcaaSealedLong
import Derived.Deep.DeepCutAuto
namespace Go.Proofs.Ytbanfbpfapjfcaa
open Go.RowKit
set_option maxRecDepth 100000

theorem gb_set {a b : World} {g j : Nat} {u : Value} (h : a.grownBy b none) (hg : a.heap.size ≤ g) : a.grownBy (b.setCell ⟨g, j, none⟩ u).drew none :=
  gb_drew ⟨h.os, h.tape, h.output, by rw [World.size_setCell]; exact h.size, fun k hk hr => (Below.heap_setCell b _ u k (by show k ≠ g; omega)).trans (h.block k hk hr)⟩

theorem same_n (xs ys : List UInt8) (n m : Nat) (ao bo : Option Addr) (ca cb : Nat) (w : World) (hn : Hid (xs.length = n)) (hm : Hid (ys.length = m)) (ha : At w ao xs) (hb : At w bo ys) (he : Hid (xs = ys)) :
    Calls Try.prog 7 #[.slice ao n ca, .slice bo m cb] w fun e w' => e = .returned (.bool true) ∧ w = w' := by
  obtain rfl := hn.out
  obtain rfl := hm.out
  have h := same_any xs ys ao bo ca cb w ha hb
  obtain rfl := he.out
  simpa using h

theorem take8 (key use draw : UInt64) (plain : List UInt8) : Pure.be draw 8 = (Pure.sealL key use draw plain).take 8 := by
  unfold Pure.sealL
  rw [List.append_assoc, List.take_append_of_le_length (by simp [Pure.be_length]), List.take_of_length_le (by simp [Pure.be_length])]

theorem xor_one (x : UInt8) (r : Nat) (h : r < 255) : bits .xor .u8 (x.toNat : Int) (1 + (r : Int)) = ((x ^^^ UInt8.ofNat (1 + r)).toNat : Int) := by
  rw [show (1 + (r : Int)) = ((1 + r : Nat) : Int) from by omega, u8_xor_nat _ _ x.toNat_lt (by omega), UInt8.toNat_xor, UInt8.toNat_ofNat', Nat.mod_eq_of_lt (by omega)]

theorem byte_ne (r : Nat) (h : r < 255) : UInt8.ofNat (1 + r) ≠ 0 := by
  intro e
  have := congrArg UInt8.toNat e
  rw [UInt8.toNat_ofNat', Nat.mod_eq_of_lt (by omega)] at this
  simp at this

set_option maxHeartbeats 1000000 in
theorem sealed_short (k draw : UInt64) (use at' by' : Int) (ao : Option Addr) (zs : List UInt8) (n cap : Nat) (w : World) (hN : Hid (zs.length = n)) (hz : At w ao zs) (hnc : ao = none → cap = 0) (hn : n ≤ 200)
    (u1 : -9223372036854775808 ≤ use) (u2 : use ≤ 9223372036854775807) (v1 : -9223372036854775808 ≤ at') (v2 : at' ≤ 9223372036854775807) (y1 : -9223372036854775808 ≤ by') (y2 : by' ≤ 9223372036854775807) :
    Calls Try.prog 3 #[.int .u64 (k.toNat : Int), .int .i64 use, .int .u64 (draw.toNat : Int), .slice ao n cap, .int .i64 at', .int .i64 by'] w fun e w' => e = .returned (.bool true) ∧ w.grownBy w' none := by
  obtain ⟨i0, hi, hz0, hz1, hz2⟩ := info_parts Try.info5
  have hp := pickN_lt use 5 (by omega)
  have hp100 := pickN_lt use 100 (by omega)
  have hp16 := pickN_lt at' 16 (by omega)
  have hpq := pickN_lt at' (n + 8) (by omega)
  have hpr := pickN_lt by' 255 (by omega)
  have hU : isU (1 + (pickN use 5 : Int)) = true := by simp [isU]; omega
  have hU6 : isU (6 + (pickN use 100 : Int)) = false := by simp [isU]; omega
  have hm5 : 5 ≤ 9223372036854775807 := by omega
  have hnb : n ≤ 140737488355328 := by omega
  have HU : Hid (1 + (pickN use 5 : Int) = ((UInt64.ofNat (1 + pickN use 5)).toNat : Int)) := by show _ = _; rw [Pure.ofNat_small _ (by omega)]; omega
  have H : Hid (ao = none → cap = 0) := hnc
  clear hnc
  generalize UInt64.ofNat (1 + pickN use 5) = uu at *
  obtain ⟨S, HS⟩ : ∃ S, Hid (S = Pure.sealL k uu draw zs) := ⟨_, rfl⟩
  have HL : Hid (S.length = n + 16) := by show _ = _; rw [HS.out, Pure.sealL_length, hN.out]
  have HO : Hid (Pure.opens k uu S = true) := by show _ = _; rw [HS.out]; exact Pure.opens_of _ _ _ _
  have HP : Hid (Pure.plainOf k uu S = zs) := by show _ = _; rw [HS.out]; exact Pure.plain_of _ _ _ _
  have H8 : Hid (Pure.be draw 8 = S.take 8) := by show _ = _; rw [HS.out]; exact take8 _ _ _ _
  have HT8 : Hid ((S.take 8).length = 8) := by have h := HL.out; show _ = _; rw [List.length_take]; omega
  have HB8 : Hid ((Pure.be draw 8).length = 8) := Pure.be_length _ _
  have hSl : 8 + pickN at' (n + 8) < S.length := by rw [HL.out]; omega
  have HT : Hid (Pure.opens k uu (S.set (8 + pickN at' (n + 8)) (S[8 + pickN at' (n + 8)] ^^^ UInt8.ofNat (1 + pickN by' 255))) = false) := by
    have hs := HS.out
    subst hs
    exact Pure.turned k uu draw zs _ _ (by omega) hSl _ (byte_ne _ hpr) rfl
  obtain ⟨X, hX⟩ : ∃ X, X = S[8 + pickN at' (n + 8)] := ⟨_, rfl⟩
  have HX : Hid (X = S[8 + pickN at' (n + 8)]) := hX
  clear hX
  have HT' : Hid (Pure.opens k uu (S.set (8 + pickN at' (n + 8)) (X ^^^ UInt8.ofNat (1 + pickN by' 255))) = false) := by
    have h := HT.out; rw [← HX.out] at h; exact h
  have HL' : Hid ((S.set (8 + pickN at' (n + 8)) (X ^^^ UInt8.ofNat (1 + pickN by' 255))).length = n + 16) := by show _ = _; rw [List.length_set]; exact HL.out
  clear HT
  go_enter Try.func3, Try.ntmps3
  go_wp2_with (first | (go_at_call 4; refine (pick_n use 5 5 _ rfl u1 u2 (by decide) hm5).mono ?_; rintro e w' ⟨rfl, rfl⟩) | (at_builtin; refine wpList_append_new _ rfl _ _ 23 rfl 5 i0 Try.underlying23 hi hz0 hz1 hz2 rfl ao n cap zs rfl hN.out H.out hz hnb ?_; intro ah ch w1 hch1 hch2 hah hg1))
  refine (wseal_ok k uu draw _ ah zs n ch w1 hU HU hN hn hah).mono ?_
  rintro e w2 ⟨g, rfl, hg, hb2, hg2⟩
  rw [← HS.out] at hb2
  have G2 : w.grownBy w2 none := gb_trans hg1 hg2
  have hgw : w.heap.size ≤ g := Nat.le_trans hg1.size hg
  clear hg1 hg2 hah hch1 hch2 hg
  go_wp2_with fail
  refine (wunseal_yes k uu _ (some ⟨g, 0, none⟩) S (n + 16) (n + 16) w2 hU HU HL (by omega) (by omega) (by omega) hb2.at HO).mono ?_
  rintro e w3 ⟨v3, p3, rfl, hb3, _, hg3⟩
  rw [HP.out] at hb3
  obtain ⟨a3, c3, hv3, j1, j2, hat3, j3⟩ := hb3.open hN
  subst hv3
  clear j1 j2 j3
  have hB3 := hb2.grown hg3 (by simp)
  have G3 := gb_trans G2 hg3
  have hz3 := hz.below G3
  clear hb2 hg3 G2
  go_wp2_with fail
  refine (same_n zs zs n n _ ao _ cap w3 hN hN hat3 hz3 rfl).mono ?_
  rintro e w' ⟨rfl, rfl⟩
  clear hb3 hz3 hat3
  have hmin : (min 8 ((n : Int) + 16)).toNat = 8 := by omega
  go_wp2_with fail
  go_cut [20] (fun d wx => d = .bool true ∧ Buf wx g (n + 16) S ∧ w.grownBy wx none)
  case first =>
    go_region_with (first | (go_at_call 8; refine (eight_any draw _).mono ?_; rintro e w4 ⟨a8, c8, rfl, hat8, hg8⟩; have hB4 := hB3.grown (gb_undrew (a := w3) hg8) (by simp); have hT4 := hB4.at.take 8) | (go_at_call 7; refine (same_n (Pure.be draw 8) (S.take 8) 8 8 a8 (some ⟨g, 0, none⟩) c8 (n + 16) w4 HB8 HT8 hat8 hT4 H8).mono ?_; rintro e w' ⟨rfl, rfl⟩))
    all_goals go_wp2
    all_goals go_meet
    all_goals exact ⟨rfl, by assumption, gb_trans G3 (gb_undrew (by assumption))⟩
  case rest =>
    obtain ⟨rfl, hBc, hGc⟩ := hcut
    clear hB3 G3
    have hcell : wc.cell? ⟨g, 8 + pickN at' (n + 8), none⟩ = some (.int .u8 (X.toNat : Int)) := by rw [HX.out]; exact hBc.cell _ hSl
    have hfro := hBc.frozen (8 + pickN at' (n + 8))
    have hib : (8 : Int) + (pickN at' (n + 8) : Int) < (n : Int) + 16 := by omega
    have hib0 : (0 : Int) ≤ 8 + (pickN at' (n + 8) : Int) := by omega
    have hw8 : IntKind.i64.wrap (8 + (pickN at' (n + 8) : Int)) = 8 + (pickN at' (n + 8) : Int) := by rw [IntKind.wrap_i64]; omega
    have hw1 : IntKind.i64.wrap (1 + (pickN by' 255 : Int)) = 1 + (pickN by' 255 : Int) := by rw [IntKind.wrap_i64]; omega
    have hwu : IntKind.u8.wrap (1 + (pickN by' 255 : Int)) = 1 + (pickN by' 255 : Int) := by rw [IntKind.wrap_u8']; omega
    have htn : (8 + (pickN at' (n + 8) : Int)).toNat = 8 + pickN at' (n + 8) := by omega
    have h81 : 1 ≤ n + 8 := by omega
    have h82 : n + 8 ≤ 9223372036854775807 := by omega
    have h255 : 255 ≤ 9223372036854775807 := by omega
    go_wp2_with fail
    go_cut [] (fun wx => Buf wx g (n + 16) (S.set (8 + pickN at' (n + 8)) (X ^^^ UInt8.ofNat (1 + pickN by' 255))) ∧ w.grownBy wx none)
    case first =>
      go_region_with (first | (go_at_call_of 4 at'; refine (pick_n at' _ (n + 8) _ ?_ v1 v2 h81 h82).mono ?_; (first | omega | (rw [IntKind.wrap_i64]; omega)); rintro e w' ⟨rfl, rfl⟩) | (go_at_call_of 4 by'; refine (pick_n by' 255 255 _ rfl y1 y2 (by decide) h255).mono ?_; rintro e w' ⟨rfl, rfl⟩))
      all_goals go_wp2
      all_goals go_meet
      all_goals (rw [xor_one X _ hpr]; exact ⟨hBc.set _ _, gb_set hGc hgw⟩)
    case rest =>
      obtain ⟨hBd, hGd⟩ := hcut
      clear hBc hGc hcell hfro hib hib0 hw8 hw1 hwu htn h81 h82 h255 hpq hpr
      have h16a : 16 ≤ n + 16 := by omega
      have h16b : n + 16 ≤ 216 := by omega
      have h16 : 16 ≤ 9223372036854775807 := by omega
      have h100 : 100 ≤ 9223372036854775807 := by omega
      go_wp2_with fail
      refine (wunseal_no k uu _ (some ⟨g, 0, none⟩) _ (n + 16) (n + 16) _ hU HU HL' h16a h16b (Nat.le_refl _) hBd.at HT').mono ?_
      rintro e we ⟨rfl, hge⟩
      have hGe := gb_trans hGd hge
      clear hBd hGd hge
      go_wp2_with fail
      refine (pick_n at' 16 16 _ rfl v1 v2 (by decide) h16).mono ?_
      rintro e w' ⟨rfl, rfl⟩
      go_wp2_with fail
      refine (wunseal_size _ _ _ _ _ _ hU (.inl hp16)).mono ?_
      rintro e w' ⟨rfl, rfl⟩
      go_wp2_with fail
      refine (pick_n use 100 100 _ rfl u1 u2 (by decide) h100).mono ?_
      rintro e w' ⟨rfl, rfl⟩
      go_wp2_with fail
      refine (wseal_use _ _ _ _ _ hU6).mono ?_
      rintro e w' ⟨rfl, rfl⟩
      go_wp2
      go_ret
      exact ⟨rfl, hGe⟩

end Go.Proofs.Ytbanfbpfapjfcaa
