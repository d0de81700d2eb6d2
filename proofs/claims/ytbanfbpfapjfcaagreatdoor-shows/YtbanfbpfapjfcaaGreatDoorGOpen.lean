/-
  Contracts of seal.Open and seal.Unseal. Conditions: in each statement (use, length, what opens; where the bytes lie).
-/
import Derived.Test.YtbanfbpfapjfcaaGreatDoorGSeal
namespace Go.Proofs.YtbanfbpfapjfcaaGreatDoor
open Go.RowKit
set_option maxRecDepth 100000

theorem Out.empty {w : World} {ao : Option Addr} {n cap : Nat} {p : Option Pl} {bs : List UInt8} (h : Out w (.slice ao n cap) p bs) : Out w (.slice ao 0 cap) p [] := by
  rcases h with ⟨h1, h2, _⟩ | ⟨q, h1, h2, h3, h4, h5, _⟩
  · injection h2 with e1 e2 e3; subst e1 e3; exact .inl ⟨h1, rfl, rfl⟩
  · injection h2 with e1 e2 e3; subst e1 e3; exact .inr ⟨q, h1, rfl, Nat.zero_le _, h4, h5, fun j u hu => by simp at hu⟩

/-- All of such a slice is veiled where it lies. -/
theorem veil_whole (head : UInt64) (ao : Option Addr) (p : Option Pl) (zs : List UInt8) (n cap : Nat) (w : World) (hv : Out w (.slice ao n cap) p zs) (hN : Hid (zs.length = n)) (hl : n ≤ 900000) :
    Calls Tryz.prog 139 #[.slice ao n cap, .int .u64 (head.toNat : Int)] w fun e w' => e = .returned (.tuple #[]) ∧ Out w' (.slice ao n cap) p (Pure.veil head zs) ∧ CF w w' (Pl.has p) := by
  rcases hv with ⟨hp, hvv, h⟩ | ⟨q, hp, hvv, h1, h2, h3, h4⟩
  · injection hvv with e1 e2 e3
    subst e1 e2 e3 h
    refine (veil_none _ _ head w).mono ?_
    rintro e w' ⟨rfl, g⟩
    exact ⟨rfl, .inl ⟨hp, rfl, rfl⟩, CF.of_gb g _⟩
  · injection hvv with e1 e2 e3
    subst e1 e3
    refine (veil_in q.g q.off q.cap n head zs w (h3.mono (by omega)) hN (by omega) h4).mono ?_
    rintro e w' ⟨rfl, r1, r2⟩
    have r3 : CF w w' (Pl.has p) := r2.mono (fun b o _ e => ⟨q, hp, e.1, e.2.1, by have := e.2.2; omega⟩)
    exact ⟨rfl, .inr ⟨q, hp, by rw [Pure.veil_length, ← e2], by rw [Pure.veil_length]; exact h1, h2, h3.cf r3, r1⟩, r3⟩

set_option maxHeartbeats 400000 in
theorem open_use (rv : Value) (key x : Int) (v : Value) (w : World) (hx : isU x = false) :
    Calls Tryz.prog 136 #[rv, .int .u64 key, .int .i64 x, v] w fun e w' => e = .returned (.tuple #[.slice none 0 0, .int .i64 1]) ∧ w = w' := by
  go_enter Tryz.func136, Tryz.ntmps136
  go_wp2_with (go_at_call 94; refine (isUse_any _ _).mono ?_; rintro e w' ⟨rfl, rfl⟩)
  go_ret2
  exact ⟨rfl, rfl⟩

set_option maxHeartbeats 400000 in
theorem open_size (rv : Value) (key x : Int) (ao : Option Addr) (n cap : Nat) (w : World) (hx : isU x = true) (hn : n < 16 ∨ 216 < n) :
    Calls Tryz.prog 136 #[rv, .int .u64 key, .int .i64 x, .slice ao n cap] w fun e w' => e = .returned (.tuple #[.slice none 0 0, .int .i64 3]) ∧ w = w' := by
  rcases hn with hn | hn
  · go_enter Tryz.func136, Tryz.ntmps136
    go_wp2_with (go_at_call 94; refine (isUse_any _ _).mono ?_; rintro e w' ⟨rfl, rfl⟩)
    go_ret2
    exact ⟨rfl, rfl⟩
  · have h16 : ¬ n < 16 := by omega
    go_enter Tryz.func136, Tryz.ntmps136
    go_wp2_with (go_at_call 94; refine (isUse_any _ _).mono ?_; rintro e w' ⟨rfl, rfl⟩)
    go_ret2
    exact ⟨rfl, rfl⟩

set_option maxHeartbeats 1000000 in
theorem open_any (rv : Value) (p : Option Pl) (rb : List UInt8) (key use : UInt64) (x : Int) (ao : Option Addr) (zs : List UInt8) (L cap : Nat) (w : World) (hR : Out w rv p rb) (hx : isU x = true) (hu : Hid (x = use.toNat)) (hL : Hid (zs.length = L)) (h16 : 16 ≤ L) (h216 : L ≤ 216) (hcap : L ≤ cap) (hz : At w ao zs)
    (hsep : ∀ b off, ao = some ⟨b, off, none⟩ → ∀ j, j < zs.length → ¬ Pl.has p b (off + j)) :
    Calls Tryz.prog 136 #[rv, .int .u64 (key.toNat : Int), .int .i64 x, .slice ao L cap] w fun e w' =>
      (Pure.opens key use zs = true → ∃ v', e = .returned (.tuple #[v', .int .i64 0]) ∧ OutMore w w' v' p (Pure.plainOf key use zs)) ∧
      (Pure.opens key use zs = false → e = .returned (.tuple #[.slice none 0 0, .int .i64 3]) ∧ CF w w' (Pl.has p)) := by
  obtain ⟨i0, hi, hz0, hz1, hz2⟩ := info_parts Tryz.info5
  obtain ⟨ra, rcap, hrv, hr1, hr2, _, _⟩ := hR.open (hid rfl)
  have hR0 : Out w (.slice ra 0 rcap) p [] := by rw [hrv] at hR; exact hR.empty
  obtain ⟨rn, hrn⟩ : ∃ rn, rb.length = rn := ⟨_, rfl⟩
  rw [hrn] at hrv hr1
  subst hrv
  clear hrn hR
  have hv : use.toNat < 9223372036854775808 := by have := hu.out; simp [isU] at hx; omega
  have n16 : ¬ L < 16 := by omega
  have hs0 := slice_head (P := Tryz.prog) 32 5 i0 Tryz.underlying32 hi hz1 ra rn rcap 0 (Nat.zero_le _)
  obtain ⟨a1, hs1, hat1⟩ := slice_to (P := Tryz.prog) 32 5 i0 Tryz.underlying32 hi hz1 ao L cap hL hcap 8 (8 : Int) rfl (by omega)
  obtain ⟨a2, hs2, hat2⟩ := slice_lh (P := Tryz.prog) 32 5 i0 Tryz.underlying32 hi hz1 ao L cap hL hcap 8 (L - 8) (8 : Int) ((L : Int) - 8) rfl (by omega) (by omega) (by omega)
  obtain ⟨a3, hs3, hat3⟩ := slice_from (P := Tryz.prog) 32 5 i0 Tryz.underlying32 hi hz1 ao L cap hL hcap (L - 8) ((L : Int) - 8) (by omega) (by omega)
  rw [show L - (L - 8) = 8 from by omega] at hs3
  have HSEP := hid hsep
  clear hsep
  go_enter Tryz.func136, Tryz.ntmps136
  go_wp2_with (go_at_call 94; refine (isUse_any _ _).mono ?_; rintro e w' ⟨rfl, rfl⟩)
  refine (join_n 0 (zs.take 8) 8 _ _ _ (by rw [List.length_take, hL.out]; omega) (by omega) (hat1 _ hz)).mono ?_
  rintro e w' ⟨rfl, rfl⟩
  go_wp2_with fail
  refine (hashHead_any key use (Pure.drawOf zs) x _ hu.out hv).mono ?_
  rintro e w1 ⟨rfl, hg1⟩
  have hz1' := hz.below hg1
  have hR1 := hR0.grown hg1
  clear hs1 hat1 hR0
  go_wp2_with fail
  have hl2 : ((zs.drop 8).take (L - 8 - 8)).length = L - 8 - 8 := by have h := hL.out; simp; omega
  have HL2 := hid hl2
  have hsrc := src_at (P := Tryz.prog) (w := w1.drew) Tryz.underlying32 a2 (L - 8 - 8) (cap - 8) ((zs.drop 8).take (L - 8 - 8)) hl2 (hat2 _ hz1')
  have HB2 := hid (show ([] : List UInt8).length + ((zs.drop 8).take (L - 8 - 8)).length ≤ 140737488355328 from by rw [hl2]; simp; omega)
  clear hl2 hat2
  go_region_law (first | (refine step_append_out rfl _ _ 32 32 rfl 5 i0 Tryz.underlying32 hi hz0 hz1 hz2 (.slice ra 0 rcap) (.slice a2 (L - 8 - 8) (cap - 8)) p [] ((zs.drop 8).take (L - 8 - 8)) ?s1 ?s2 hR1.drew _ hsrc HB2.out ?_; (case s1 => first | rfl | simp [Act.eval, Act.put]); (case s2 => first | rfl | simp [Act.eval, Act.put]); intro v2 w2 R2))
  all_goals
    rw [List.nil_append] at R2
    obtain ⟨p2, ho2, hc2⟩ := R2
    obtain ⟨va, vc, hvv, hv1, hv2, _, _⟩ := ho2.open HL2
    subst hvv
    have HC2 := hid (show CF w1 w2 (Pl.has p) ∧ (p2 = p ∨ Pl.fresh w1.heap.size p2) ∧ ∀ q, p = some q → ((zs.drop 8).take (L - 8 - 8)).length ≤ q.cap → p2 = p from ⟨hc2.1.undrew, hc2.2⟩)
    clear hc2 hsrc hs0 hs2 HB2
    go_wp2_with fail
    refine (veil_whole (Pure.head key use (Pure.drawOf zs)) va p2 _ _ vc w2 ho2 HL2 (by omega)).mono ?_
    rintro e w3 ⟨rfl, ho3, hf3⟩
    have hpl : Pure.plainOf key use zs = Pure.veil (Pure.head key use (Pure.drawOf zs)) ((zs.drop 8).take (L - 8 - 8)) := by unfold Pure.plainOf; rw [hL.out, show L - 16 = L - 8 - 8 from by omega]
    rw [← hpl] at ho3
    have R3 : OutMore w1 w3 (.slice va (L - 8 - 8) vc) p (Pure.plainOf key use zs) := OutMore.comp HC2.out ⟨p2, ho3, hf3, .inl rfl, fun _ _ _ => rfl⟩ (by rw [hpl, Pure.veil_length]; exact Nat.le_refl _)
    have R := hid (R3.before hg1)
    have hF := R.out.cf
    have hz3 : At w3 ao zs := hz.cf hF HSEP.out
    have hend : At w3 a3 (zs.drop (L - 8)) := hat3 _ hz3
    have hdl : Hid ((zs.drop (L - 8)).length = 8) := by have h := hL.out; show _ = _; simp; omega
    have hpll : Hid ((Pure.plainOf key use zs).length = L - 8 - 8) := by have h := hL.out; show _ = _; rw [Pure.plainOf_length]; omega
    obtain ⟨_, _, hvq, _, _, hatp⟩ := ho3.shape
    rw [hpll.out] at hvq
    injection hvq with e1 e2 e3
    subst e1
    clear e2 e3
    have hatp' := hatp.1
    have hle : L - 8 - 8 ≤ 140737488355328 := by omega
    have h8 : 8 ≤ 140737488355328 := by omega
    clear hpl ho2 HC2 hf3 R3 hz3 hat3 hatp ho3 HL2
    cases ho : Pure.opens key use zs
    all_goals
      have hbn := Pure.opens_bne key use zs L hL.out _ ho
      have HO := hid ho
      clear ho
      go_wp2_with fail
      go_quiet (first | (go_at_call 138; exact hashOn_q (Pure.head key use (Pure.drawOf zs)) (Pure.plainOf key use zs) (L - 8 - 8) _ _ w3 _ hpll hle hatp') | (go_at_call 208; refine join_q 0 (zs.drop (L - 8)) 8 _ _ w3 _ hdl h8 hend))
      go_wp2
      go_ret2
      first
        | exact ⟨fun h => absurd (HO.out.symm.trans h) (by decide), fun _ => ⟨rfl, hF.drewN _⟩⟩
        | exact ⟨fun _ => ⟨_, rfl, R.out.drewN _⟩, fun h => absurd (HO.out.symm.trans h) (by decide)⟩

theorem has_none {b o : Nat} : ¬ Pl.has none b o := by rintro ⟨q, hq, _⟩; cases hq
theorem OutMore.nil {w w' : World} {v : Value} {bs : List UInt8} (h : OutMore w w' v none bs) : ∃ p, Out w' v p bs ∧ Pl.fresh w.heap.size p ∧ w.grownBy w' none := by
  obtain ⟨p, h1, h2, h3, _⟩ := h
  refine ⟨p, h1, ?_, h2.gb (fun _ _ _ => has_none)⟩
  rcases h3 with h3 | h3
  · rw [h3]; intro q hq; cases hq
  · exact h3

set_option maxHeartbeats 400000 in
theorem unseal_use (key x : Int) (v : Value) (w : World) (hx : isU x = false) :
    Calls Tryz.prog 93 #[.int .u64 key, .int .i64 x, v] w fun e w' => e = .returned (.tuple #[.slice none 0 0, .int .i64 1]) ∧ w = w' := by
  go_enter Tryz.func93, Tryz.ntmps93
  go_wp2_with (go_at_call 136; refine (open_use _ _ _ _ _ hx).mono ?_; rintro e w' ⟨rfl, rfl⟩)
  go_ret2
  exact ⟨rfl, rfl⟩

set_option maxHeartbeats 400000 in
theorem unseal_size (key x : Int) (ao : Option Addr) (n cap : Nat) (w : World) (hx : isU x = true) (hn : n < 16 ∨ 216 < n) :
    Calls Tryz.prog 93 #[.int .u64 key, .int .i64 x, .slice ao n cap] w fun e w' => e = .returned (.tuple #[.slice none 0 0, .int .i64 3]) ∧ w = w' := by
  have H := hid hn
  clear hn
  go_enter Tryz.func93, Tryz.ntmps93
  go_wp2_with (go_at_call 136; refine (open_size _ _ _ _ _ _ _ hx H.out).mono ?_; rintro e w' ⟨rfl, rfl⟩)
  go_ret2
  exact ⟨rfl, rfl⟩

set_option maxHeartbeats 400000 in
theorem unseal_yes (key use : UInt64) (x : Int) (ao : Option Addr) (zs : List UInt8) (L cap : Nat) (w : World) (hx : isU x = true) (hu : Hid (x = use.toNat)) (hL : Hid (zs.length = L)) (h16 : 16 ≤ L) (h216 : L ≤ 216) (hcap : L ≤ cap) (hz : At w ao zs) (ho : Hid (Pure.opens key use zs = true)) :
    Calls Tryz.prog 93 #[.int .u64 (key.toNat : Int), .int .i64 x, .slice ao L cap] w fun e w' => ∃ v p, e = .returned (.tuple #[v, .int .i64 0]) ∧ Out w' v p (Pure.plainOf key use zs) ∧ Pl.fresh w.heap.size p ∧ w.grownBy w' none := by
  go_enter Tryz.func93, Tryz.ntmps93
  go_wp2_with fail
  refine (open_any _ none [] key use x ao zs L cap w (Out.nil w) hx hu hL h16 h216 hcap hz (fun _ _ _ _ _ => has_none)).mono ?_
  rintro e w1 ⟨h1, _⟩
  obtain ⟨v, rfl, h2⟩ := h1 ho.out
  obtain ⟨p, h3, h4, h5⟩ := h2.nil
  clear h1 h2
  go_wp2
  go_ret2
  exact ⟨v, p, rfl, h3, h4, h5⟩

set_option maxHeartbeats 400000 in
theorem unseal_no (key use : UInt64) (x : Int) (ao : Option Addr) (zs : List UInt8) (L cap : Nat) (w : World) (hx : isU x = true) (hu : Hid (x = use.toNat)) (hL : Hid (zs.length = L)) (h16 : 16 ≤ L) (h216 : L ≤ 216) (hcap : L ≤ cap) (hz : At w ao zs) (ho : Hid (Pure.opens key use zs = false)) :
    Calls Tryz.prog 93 #[.int .u64 (key.toNat : Int), .int .i64 x, .slice ao L cap] w fun e w' => e = .returned (.tuple #[.slice none 0 0, .int .i64 3]) ∧ w.grownBy w' none := by
  go_enter Tryz.func93, Tryz.ntmps93
  go_wp2_with fail
  refine (open_any _ none [] key use x ao zs L cap w (Out.nil w) hx hu hL h16 h216 hcap hz (fun _ _ _ _ _ => has_none)).mono ?_
  rintro e w1 ⟨_, h1⟩
  obtain ⟨rfl, h2⟩ := h1 ho.out
  have G := h2.gb (fun _ _ _ => has_none)
  clear h1 h2
  go_wp2
  go_ret2
  exact ⟨rfl, G⟩
end Go.Proofs.YtbanfbpfapjfcaaGreatDoor
