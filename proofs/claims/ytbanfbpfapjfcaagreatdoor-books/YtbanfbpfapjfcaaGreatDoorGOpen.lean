/-
  Contracts of seal.Open and seal.Unseal. Conditions: in each statement (use, length, what opens; where the bytes lie).
  Contracts of the calls warden.Seal and warden.Unseal. Conditions: in each statement.
  Contracts of the document's answer, its small functions: Hash, number64, same, eight, joined. Conditions: in each statement (where the bytes lie).
-/
import Derived.Test.YtbanfbpfapjfcaaGreatDoorGSeal
namespace Go.Proofs.YtbanfbpfapjfcaaGreatDoor
open Go.RowKit
set_option maxRecDepth 100000

theorem Out.empty {w : World} {ao : Option Addr} {n cap : Nat} {p : Option Pl} {bs : List UInt8} (h : Out w (.slice ao n cap) p bs) : Out w (.slice ao 0 cap) p [] := by
  rcases h with ⟨h1, h2, _⟩ | ⟨q, h1, h2, h3, h4, h5, _⟩
  · injection h2 with e1 e2 e3; subst e1 e3; exact .inl ⟨h1, rfl, rfl⟩
  · injection h2 with e1 e2 e3; subst e1 e3; exact .inr ⟨q, h1, rfl, Nat.zero_le _, h4, h5, fun j u hu => by simp at hu⟩

/-- All of such a slice is veiled where it lies. -/
theorem veil_whole (head : UInt64) (ao : Option Addr) (p : Option Pl) (zs : List UInt8) (n cap : Nat) (w : World) (hv : Out w (.slice ao n cap) p zs) (hN : Hid (zs.length = n)) (hl : n ≤ 900000) :
    Calls Tryz.prog 139 #[.slice ao n cap, .int .u64 (head.toNat : Int)] w fun e w' => e = .returned (.tuple #[]) ∧ Out w' (.slice ao n cap) p (Pure.veil head zs) ∧ CF w w' (Pl.has p) := by
  rcases hv with ⟨hp, hvv, h⟩ | ⟨q, hp, hvv, h1, h2, h3, h4⟩
  · injection hvv with e1 e2 e3
    subst e1 e2 e3 h
    refine (veil_none _ _ head w).mono ?_
    rintro e w' ⟨rfl, g⟩
    exact ⟨rfl, .inl ⟨hp, rfl, rfl⟩, CF.of_gb g _⟩
  · injection hvv with e1 e2 e3
    subst e1 e3
    refine (veil_in q.g q.off q.cap n head zs w (h3.mono (by omega)) hN (by omega) h4).mono ?_
    rintro e w' ⟨rfl, r1, r2⟩
    have r3 : CF w w' (Pl.has p) := r2.mono (fun b o _ e => ⟨q, hp, e.1, e.2.1, by have := e.2.2; omega⟩)
    exact ⟨rfl, .inr ⟨q, hp, by rw [Pure.veil_length, ← e2], by rw [Pure.veil_length]; exact h1, h2, h3.cf r3, r1⟩, r3⟩

set_option maxHeartbeats 400000 in
theorem open_use (rv : Value) (key x : Int) (v : Value) (w : World) (hx : isU x = false) :
    Calls Tryz.prog 136 #[rv, .int .u64 key, .int .i64 x, v] w fun e w' => e = .returned (.tuple #[.slice none 0 0, .int .i64 1]) ∧ w = w' := by
  go_enter Tryz.func136, Tryz.ntmps136
  go_wp2_with (go_at_call 94; refine (isUse_any _ _).mono ?_; rintro e w' ⟨rfl, rfl⟩)
  go_ret2
  exact ⟨rfl, rfl⟩

set_option maxHeartbeats 400000 in
theorem open_size (rv : Value) (key x : Int) (ao : Option Addr) (n cap : Nat) (w : World) (hx : isU x = true) (hn : n < 16 ∨ 216 < n) :
    Calls Tryz.prog 136 #[rv, .int .u64 key, .int .i64 x, .slice ao n cap] w fun e w' => e = .returned (.tuple #[.slice none 0 0, .int .i64 3]) ∧ w = w' := by
  rcases hn with hn | hn
  · go_enter Tryz.func136, Tryz.ntmps136
    go_wp2_with (go_at_call 94; refine (isUse_any _ _).mono ?_; rintro e w' ⟨rfl, rfl⟩)
    go_ret2
    exact ⟨rfl, rfl⟩
  · have h16 : ¬ n < 16 := by omega
    go_enter Tryz.func136, Tryz.ntmps136
    go_wp2_with (go_at_call 94; refine (isUse_any _ _).mono ?_; rintro e w' ⟨rfl, rfl⟩)
    go_ret2
    exact ⟨rfl, rfl⟩

set_option maxHeartbeats 1000000 in
theorem open_any (rv : Value) (p : Option Pl) (rb : List UInt8) (key use : UInt64) (x : Int) (ao : Option Addr) (zs : List UInt8) (L cap : Nat) (w : World) (hR : Out w rv p rb) (hx : isU x = true) (hu : Hid (x = use.toNat)) (hL : Hid (zs.length = L)) (h16 : 16 ≤ L) (h216 : L ≤ 216) (hcap : L ≤ cap) (hz : At w ao zs)
    (hsep : ∀ b off, ao = some ⟨b, off, none⟩ → ∀ j, j < zs.length → ¬ Pl.has p b (off + j)) :
    Calls Tryz.prog 136 #[rv, .int .u64 (key.toNat : Int), .int .i64 x, .slice ao L cap] w fun e w' =>
      (Pure.opens key use zs = true → ∃ v', e = .returned (.tuple #[v', .int .i64 0]) ∧ OutMore w w' v' p (Pure.plainOf key use zs)) ∧
      (Pure.opens key use zs = false → e = .returned (.tuple #[.slice none 0 0, .int .i64 3]) ∧ CF w w' (Pl.has p)) := by
  obtain ⟨i0, hi, hz0, hz1, hz2⟩ := info_parts Tryz.info5
  obtain ⟨ra, rcap, hrv, hr1, hr2, _, _⟩ := hR.open (hid rfl)
  have hR0 : Out w (.slice ra 0 rcap) p [] := by rw [hrv] at hR; exact hR.empty
  obtain ⟨rn, hrn⟩ : ∃ rn, rb.length = rn := ⟨_, rfl⟩
  rw [hrn] at hrv hr1
  subst hrv
  clear hrn hR
  have hv : use.toNat < 9223372036854775808 := by have := hu.out; simp [isU] at hx; omega
  have n16 : ¬ L < 16 := by omega
  have hs0 := slice_head (P := Tryz.prog) 32 5 i0 Tryz.underlying32 hi hz1 ra rn rcap 0 (Nat.zero_le _)
  obtain ⟨a1, hs1, hat1⟩ := slice_to (P := Tryz.prog) 32 5 i0 Tryz.underlying32 hi hz1 ao L cap hL hcap 8 (8 : Int) rfl (by omega)
  obtain ⟨a2, hs2, hat2⟩ := slice_lh (P := Tryz.prog) 32 5 i0 Tryz.underlying32 hi hz1 ao L cap hL hcap 8 (L - 8) (8 : Int) ((L : Int) - 8) rfl (by omega) (by omega) (by omega)
  obtain ⟨a3, hs3, hat3⟩ := slice_from (P := Tryz.prog) 32 5 i0 Tryz.underlying32 hi hz1 ao L cap hL hcap (L - 8) ((L : Int) - 8) (by omega) (by omega)
  rw [show L - (L - 8) = 8 from by omega] at hs3
  have HSEP := hid hsep
  clear hsep
  go_enter Tryz.func136, Tryz.ntmps136
  go_wp2_with (go_at_call 94; refine (isUse_any _ _).mono ?_; rintro e w' ⟨rfl, rfl⟩)
  refine (join_n 0 (zs.take 8) 8 _ _ _ (by rw [List.length_take, hL.out]; omega) (by omega) (hat1 _ hz)).mono ?_
  rintro e w' ⟨rfl, rfl⟩
  go_wp2_with fail
  refine (hashHead_any key use (Pure.drawOf zs) x _ hu.out hv).mono ?_
  rintro e w1 ⟨rfl, hg1⟩
  have hz1' := hz.below hg1
  have hR1 := hR0.grown hg1
  clear hs1 hat1 hR0
  go_wp2_with fail
  have hl2 : ((zs.drop 8).take (L - 8 - 8)).length = L - 8 - 8 := by have h := hL.out; simp; omega
  have HL2 := hid hl2
  have hsrc := src_at (P := Tryz.prog) (w := w1.drew) Tryz.underlying32 a2 (L - 8 - 8) (cap - 8) ((zs.drop 8).take (L - 8 - 8)) hl2 (hat2 _ hz1')
  have HB2 := hid (show ([] : List UInt8).length + ((zs.drop 8).take (L - 8 - 8)).length ≤ 140737488355328 from by rw [hl2]; simp; omega)
  clear hl2 hat2
  go_region_law (first | (refine step_append_out rfl _ _ 32 32 rfl 5 i0 Tryz.underlying32 hi hz0 hz1 hz2 (.slice ra 0 rcap) (.slice a2 (L - 8 - 8) (cap - 8)) p [] ((zs.drop 8).take (L - 8 - 8)) ?s1 ?s2 hR1.drew _ hsrc HB2.out ?_; (case s1 => first | rfl | simp [Act.eval, Act.put]); (case s2 => first | rfl | simp [Act.eval, Act.put]); intro v2 w2 R2))
  all_goals
    rw [List.nil_append] at R2
    obtain ⟨p2, ho2, hc2⟩ := R2
    obtain ⟨va, vc, hvv, hv1, hv2, _, _⟩ := ho2.open HL2
    subst hvv
    have HC2 := hid (show CF w1 w2 (Pl.has p) ∧ (p2 = p ∨ Pl.fresh w1.heap.size p2) ∧ ∀ q, p = some q → ((zs.drop 8).take (L - 8 - 8)).length ≤ q.cap → p2 = p from ⟨hc2.1.undrew, hc2.2⟩)
    clear hc2 hsrc hs0 hs2 HB2
    go_wp2_with fail
    refine (veil_whole (Pure.head key use (Pure.drawOf zs)) va p2 _ _ vc w2 ho2 HL2 (by omega)).mono ?_
    rintro e w3 ⟨rfl, ho3, hf3⟩
    have hpl : Pure.plainOf key use zs = Pure.veil (Pure.head key use (Pure.drawOf zs)) ((zs.drop 8).take (L - 8 - 8)) := by unfold Pure.plainOf; rw [hL.out, show L - 16 = L - 8 - 8 from by omega]
    rw [← hpl] at ho3
    have R3 : OutMore w1 w3 (.slice va (L - 8 - 8) vc) p (Pure.plainOf key use zs) := OutMore.comp HC2.out ⟨p2, ho3, hf3, .inl rfl, fun _ _ _ => rfl⟩ (by rw [hpl, Pure.veil_length]; exact Nat.le_refl _)
    have R := hid (R3.before hg1)
    have hF := R.out.cf
    have hz3 : At w3 ao zs := hz.cf hF HSEP.out
    have hend : At w3 a3 (zs.drop (L - 8)) := hat3 _ hz3
    have hdl : Hid ((zs.drop (L - 8)).length = 8) := by have h := hL.out; show _ = _; simp; omega
    have hpll : Hid ((Pure.plainOf key use zs).length = L - 8 - 8) := by have h := hL.out; show _ = _; rw [Pure.plainOf_length]; omega
    obtain ⟨_, _, hvq, _, _, hatp⟩ := ho3.shape
    rw [hpll.out] at hvq
    injection hvq with e1 e2 e3
    subst e1
    clear e2 e3
    have hatp' := hatp.1
    have hle : L - 8 - 8 ≤ 140737488355328 := by omega
    have h8 : 8 ≤ 140737488355328 := by omega
    clear hpl ho2 HC2 hf3 R3 hz3 hat3 hatp ho3 HL2
    cases ho : Pure.opens key use zs
    all_goals
      have hbn := Pure.opens_bne key use zs L hL.out _ ho
      have HO := hid ho
      clear ho
      go_wp2_with fail
      go_quiet (first | (go_at_call 138; exact hashOn_q (Pure.head key use (Pure.drawOf zs)) (Pure.plainOf key use zs) (L - 8 - 8) _ _ w3 _ hpll hle hatp') | (go_at_call 208; refine join_q 0 (zs.drop (L - 8)) 8 _ _ w3 _ hdl h8 hend))
      go_wp2
      go_ret2
      first
        | exact ⟨fun h => absurd (HO.out.symm.trans h) (by decide), fun _ => ⟨rfl, hF.drewN _⟩⟩
        | exact ⟨fun _ => ⟨_, rfl, R.out.drewN _⟩, fun h => absurd (HO.out.symm.trans h) (by decide)⟩

theorem has_none {b o : Nat} : ¬ Pl.has none b o := by rintro ⟨q, hq, _⟩; cases hq
theorem OutMore.nil {w w' : World} {v : Value} {bs : List UInt8} (h : OutMore w w' v none bs) : ∃ p, Out w' v p bs ∧ Pl.fresh w.heap.size p ∧ w.grownBy w' none := by
  obtain ⟨p, h1, h2, h3, _⟩ := h
  refine ⟨p, h1, ?_, h2.gb (fun _ _ _ => has_none)⟩
  rcases h3 with h3 | h3
  · rw [h3]; intro q hq; cases hq
  · exact h3

set_option maxHeartbeats 400000 in
theorem unseal_use (key x : Int) (v : Value) (w : World) (hx : isU x = false) :
    Calls Tryz.prog 93 #[.int .u64 key, .int .i64 x, v] w fun e w' => e = .returned (.tuple #[.slice none 0 0, .int .i64 1]) ∧ w = w' := by
  go_enter Tryz.func93, Tryz.ntmps93
  go_wp2_with (go_at_call 136; refine (open_use _ _ _ _ _ hx).mono ?_; rintro e w' ⟨rfl, rfl⟩)
  go_ret2
  exact ⟨rfl, rfl⟩

set_option maxHeartbeats 400000 in
theorem unseal_size (key x : Int) (ao : Option Addr) (n cap : Nat) (w : World) (hx : isU x = true) (hn : n < 16 ∨ 216 < n) :
    Calls Tryz.prog 93 #[.int .u64 key, .int .i64 x, .slice ao n cap] w fun e w' => e = .returned (.tuple #[.slice none 0 0, .int .i64 3]) ∧ w = w' := by
  have H := hid hn
  clear hn
  go_enter Tryz.func93, Tryz.ntmps93
  go_wp2_with (go_at_call 136; refine (open_size _ _ _ _ _ _ _ hx H.out).mono ?_; rintro e w' ⟨rfl, rfl⟩)
  go_ret2
  exact ⟨rfl, rfl⟩

set_option maxHeartbeats 400000 in
theorem unseal_yes (key use : UInt64) (x : Int) (ao : Option Addr) (zs : List UInt8) (L cap : Nat) (w : World) (hx : isU x = true) (hu : Hid (x = use.toNat)) (hL : Hid (zs.length = L)) (h16 : 16 ≤ L) (h216 : L ≤ 216) (hcap : L ≤ cap) (hz : At w ao zs) (ho : Hid (Pure.opens key use zs = true)) :
    Calls Tryz.prog 93 #[.int .u64 (key.toNat : Int), .int .i64 x, .slice ao L cap] w fun e w' => ∃ v p, e = .returned (.tuple #[v, .int .i64 0]) ∧ Out w' v p (Pure.plainOf key use zs) ∧ Pl.fresh w.heap.size p ∧ w.grownBy w' none := by
  go_enter Tryz.func93, Tryz.ntmps93
  go_wp2_with fail
  refine (open_any _ none [] key use x ao zs L cap w (Out.nil w) hx hu hL h16 h216 hcap hz (fun _ _ _ _ _ => has_none)).mono ?_
  rintro e w1 ⟨h1, _⟩
  obtain ⟨v, rfl, h2⟩ := h1 ho.out
  obtain ⟨p, h3, h4, h5⟩ := h2.nil
  clear h1 h2
  go_wp2
  go_ret2
  exact ⟨v, p, rfl, h3, h4, h5⟩

set_option maxHeartbeats 400000 in
theorem unseal_no (key use : UInt64) (x : Int) (ao : Option Addr) (zs : List UInt8) (L cap : Nat) (w : World) (hx : isU x = true) (hu : Hid (x = use.toNat)) (hL : Hid (zs.length = L)) (h16 : 16 ≤ L) (h216 : L ≤ 216) (hcap : L ≤ cap) (hz : At w ao zs) (ho : Hid (Pure.opens key use zs = false)) :
    Calls Tryz.prog 93 #[.int .u64 (key.toNat : Int), .int .i64 x, .slice ao L cap] w fun e w' => e = .returned (.tuple #[.slice none 0 0, .int .i64 3]) ∧ w.grownBy w' none := by
  go_enter Tryz.func93, Tryz.ntmps93
  go_wp2_with fail
  refine (open_any _ none [] key use x ao zs L cap w (Out.nil w) hx hu hL h16 h216 hcap hz (fun _ _ _ _ _ => has_none)).mono ?_
  rintro e w1 ⟨_, h1⟩
  obtain ⟨rfl, h2⟩ := h1 ho.out
  have G := h2.gb (fun _ _ _ => has_none)
  clear h1 h2
  go_wp2
  go_ret2
  exact ⟨rfl, G⟩
end Go.Proofs.YtbanfbpfapjfcaaGreatDoor
namespace Go.Proofs.YtbanfbpfapjfcaaGreatDoor
open Go.RowKit
set_option maxRecDepth 100000

set_option maxHeartbeats 400000 in
theorem wseal_use (key draw x : Int) (v : Value) (w : World) (hx : isU x = false) :
    Calls Tryz.prog 41 #[.int .u64 key, .int .i64 x, .int .u64 draw, v] w fun e w' => e = .returned (.tuple #[.slice none 0 0, .int .i64 1]) ∧ w = w' := by
  go_enter Tryz.func41, Tryz.ntmps41
  go_wp2_with (go_at_call 62; refine (seal_use key draw x v _ hx).mono ?_; rintro e w' ⟨rfl, rfl⟩)
  go_ret2
  exact ⟨rfl, rfl⟩
set_option maxHeartbeats 400000 in
theorem wseal_long (key draw x : Int) (ao : Option Addr) (n cap : Nat) (w : World) (hx : isU x = true) (hn : 200 < n) :
    Calls Tryz.prog 41 #[.int .u64 key, .int .i64 x, .int .u64 draw, .slice ao n cap] w fun e w' => e = .returned (.tuple #[.slice none 0 0, .int .i64 1]) ∧ w = w' := by
  go_enter Tryz.func41, Tryz.ntmps41
  go_wp2_with (go_at_call 62; refine (seal_long key draw x ao n cap _ hx hn).mono ?_; rintro e w' ⟨rfl, rfl⟩)
  go_ret2
  exact ⟨rfl, rfl⟩
set_option maxHeartbeats 400000 in
theorem wseal_ok (key use draw : UInt64) (x : Int) (ao : Option Addr) (zs : List UInt8) (n cap : Nat) (w : World) (hx : isU x = true) (hu : Hid (x = use.toNat)) (hn : Hid (zs.length = n)) (hl : n ≤ 200) (hz : At w ao zs) :
    Calls Tryz.prog 41 #[.int .u64 (key.toNat : Int), .int .i64 x, .int .u64 (draw.toNat : Int), .slice ao n cap] w fun e w' =>
      ∃ g, e = .returned (.tuple #[.slice (some ⟨g, 0, none⟩) (n + 16) (n + 16), .int .i64 0]) ∧ w.heap.size ≤ g ∧ Buf w' g (n + 16) (Pure.sealL key use draw zs) ∧ w.grownBy w' none := by
  obtain rfl := hn.out
  go_enter Tryz.func41, Tryz.ntmps41
  go_wp2_with (go_at_call 62; refine (seal_ok key use draw x ao zs cap _ hx hu.out hl hz).mono ?_; rintro e w' ⟨g, rfl, h1, h2, h3⟩)
  go_ret2
  exact ⟨g, rfl, h1, h2, h3⟩
set_option maxHeartbeats 400000 in
theorem wunseal_size (key x : Int) (ao : Option Addr) (n cap : Nat) (w : World) (hx : isU x = true) (hn : n < 16 ∨ 216 < n) :
    Calls Tryz.prog 61 #[.int .u64 key, .int .i64 x, .slice ao n cap] w fun e w' => e = .returned (.tuple #[.slice none 0 0, .int .i64 3]) ∧ w = w' := by
  have H : Hid (n < 16 ∨ 216 < n) := hn
  clear hn
  go_enter Tryz.func61, Tryz.ntmps61
  go_wp2_with (go_at_call 93; refine (unseal_size key x ao n cap _ hx H.out).mono ?_; rintro e w' ⟨rfl, rfl⟩)
  go_ret2
  exact ⟨rfl, rfl⟩
set_option maxHeartbeats 400000 in
theorem wunseal_yes (key use : UInt64) (x : Int) (ao : Option Addr) (zs : List UInt8) (L cap : Nat) (w : World) (hx : isU x = true) (hu : Hid (x = use.toNat)) (hL : Hid (zs.length = L)) (h16 : 16 ≤ L) (h216 : L ≤ 216) (hcap : L ≤ cap) (hz : At w ao zs) (ho : Hid (Pure.opens key use zs = true)) :
    Calls Tryz.prog 61 #[.int .u64 (key.toNat : Int), .int .i64 x, .slice ao L cap] w fun e w' => ∃ v p, e = .returned (.tuple #[v, .int .i64 0]) ∧ Out w' v p (Pure.plainOf key use zs) ∧ Pl.fresh w.heap.size p ∧ w.grownBy w' none := by
  go_enter Tryz.func61, Tryz.ntmps61
  go_wp2_with fail
  refine (unseal_yes key use x ao zs L cap _ hx hu hL h16 h216 hcap hz ho).mono ?_
  rintro e w1 ⟨v, p, rfl, h3, h4, h5⟩
  go_wp2
  go_ret2
  exact ⟨v, p, rfl, h3, h4, h5⟩
set_option maxHeartbeats 400000 in
theorem wunseal_no (key use : UInt64) (x : Int) (ao : Option Addr) (zs : List UInt8) (L cap : Nat) (w : World) (hx : isU x = true) (hu : Hid (x = use.toNat)) (hL : Hid (zs.length = L)) (h16 : 16 ≤ L) (h216 : L ≤ 216) (hcap : L ≤ cap) (hz : At w ao zs) (ho : Hid (Pure.opens key use zs = false)) :
    Calls Tryz.prog 61 #[.int .u64 (key.toNat : Int), .int .i64 x, .slice ao L cap] w fun e w' => e = .returned (.tuple #[.slice none 0 0, .int .i64 3]) ∧ w.grownBy w' none := by
  go_enter Tryz.func61, Tryz.ntmps61
  go_wp2_with fail
  refine (unseal_no key use x ao zs L cap _ hx hu hL h16 h216 hcap hz ho).mono ?_
  rintro e w1 ⟨rfl, h3⟩
  go_wp2
  go_ret2
  exact ⟨rfl, h3⟩

end Go.Proofs.YtbanfbpfapjfcaaGreatDoor
namespace Go.Proofs.YtbanfbpfapjfcaaGreatDoor
open Go.RowKit
set_option maxRecDepth 100000

set_option maxHeartbeats 400000 in
theorem rhash_any (zs : List UInt8) (n : Nat) (ao : Option Addr) (cap : Nat) (w : World) (hn : Hid (zs.length = n)) (hl : n ≤ 140737488355328) (hc : At w ao zs) :
    Calls Tryz.prog 70 #[.slice ao n cap] w fun e w' => e = .returned (.int .u64 ((Pure.hashL 0 zs).toNat : Int)) ∧ w = w' := by
  obtain rfl := hn.out
  go_enter Tryz.func70, Tryz.ntmps70
  go_wp2
  go_loop [3, 4] (fun hh i => ∃ k : Nat, k ≤ zs.length ∧ i = .int .i64 k ∧ hh = .int .u64 ((Pure.hashL 0 (zs.take k)).toNat : Int)) (fun _ i => zs.length - (intOf i).toNat)
  case atStart => exact ⟨0, Nat.zero_le _, rfl, rfl⟩
  case round =>
    obtain ⟨k, hk, rfl, rfl⟩ := hrel
    by_cases hlt : k < zs.length
    · obtain ⟨b, off, rfl, hck⟩ := hc k hlt
      clear hc
      go_wp2
      go_round
      case rel => exact ⟨k + 1, by omega, by go_num, val_u64 (by rw [take_snoc hlt, Pure.hashL_snoc]; exact step_int_div _ _)⟩
      case measure => simp [intOf]; omega
    · clear hc
      go_wp2
      go_ret
      exact ⟨ret_u64 (by rw [List.take_of_length_le (by omega)]), rfl⟩

set_option maxHeartbeats 400000 in
theorem rnumber_any (zs : List UInt8) (n : Nat) (ao : Option Addr) (cap : Nat) (w : World) (hn : Hid (zs.length = n)) (hl : n ≤ 140737488355328) (hc : At w ao zs) :
    Calls Tryz.prog 150 #[.slice ao n cap] w fun e w' => e = .returned (.int .u64 ((Pure.joinL 0 zs).toNat : Int)) ∧ w = w' := by
  obtain rfl := hn.out
  go_enter Tryz.func150, Tryz.ntmps150
  go_wp2
  go_loop [3, 4] (fun hh i => ∃ k : Nat, k ≤ zs.length ∧ i = .int .i64 k ∧ hh = .int .u64 ((Pure.joinL 0 (zs.take k)).toNat : Int)) (fun _ i => zs.length - (intOf i).toNat)
  case atStart => exact ⟨0, Nat.zero_le _, rfl, rfl⟩
  case round =>
    obtain ⟨k, hk, rfl, rfl⟩ := hrel
    by_cases hlt : k < zs.length
    · obtain ⟨b, off, rfl, hck⟩ := hc k hlt
      clear hc
      go_wp2
      go_round
      case rel => exact ⟨k + 1, by omega, by go_num, val_u64 (by rw [take_snoc hlt, Pure.joinL_snoc]; exact number_int _ _)⟩
      case measure => simp [intOf]; omega
    · clear hc
      go_wp2
      go_ret
      exact ⟨ret_u64 (by rw [List.take_of_length_le (by omega)]), rfl⟩

set_option maxHeartbeats 400000 in
theorem eight_own (v : UInt64) (w : World) :
    Calls Tryz.prog 148 #[.int .u64 (v.toNat : Int)] w fun e w' => ∃ o, e = .returned o ∧ w'.ownsRow w.heap.size 5 1 o 8 ((Pure.be v 8).map U8) ∧ w.grownBy w' none := by
  obtain ⟨i0, hi, hz0, hz1, hz2⟩ := info_parts Tryz.info5
  go_enter Tryz.func148, Tryz.ntmps148
  go_wp2
  go_loopw [3, 4] (fun o i wr => ∃ k : Nat, k ≤ 8 ∧ i = .int .i64 ((7 : Int) - k) ∧ wr.ownsRow w.heap.size 5 1 o k ((Pure.beTo v 8 k).map U8) ∧ w.grownBy wr none) (fun _ i _ => (intOf i + 1).toNat)
  case atStart => exact ⟨0, by omega, rfl, World.ownsRow_nil _ _ _ _, World.grownBy.refl _ _⟩
  case round =>
    obtain ⟨k, hk, rfl, hown, hgr⟩ := hrel
    have hsz := hgr.size
    by_cases hlt : k < 8
    · go_wp2_with (at_builtin; refine wpList_append_own _ rfl _ _ 32 rfl w.heap.size 5 i0 (.int .u8 0) 1 1 Tryz.underlying32 hi hz0 hz1 hz2 rfl (by decide) _ _ _ rfl (hown.alloc _) ⟨wr.heap.size, 0, none⟩ 1 1 ([Pure.byteAt v (7 - k)].map U8) rfl rfl ?c1 ?c2 ?c3 ?c4 ?c5 ?_)
      case c1 => exact byteAt_cells _ _ _ _
      case c2 => exact one_map _
      case c3 => unfold maxLen; omega
      case c4 => omega
      case c5 => simp; omega
      · intro v' w1 hown' hg1 _
        have R : w1.ownsRow w.heap.size 5 1 v' (k + 1) ((Pure.beTo v 8 (k + 1)).map U8) ∧ w.grownBy w1 none := ⟨by rw [Pure.beTo_succ, List.map_append]; exact hown', gb_row (gb_alloc hgr _) hg1 (fun i hi => (hown.lt i hi).1)⟩
        clear hown hown' hg1 hgr
        go_wp2
        go_roundw
        case rel => exact ⟨k + 1, by omega, by go_num, R.1, R.2⟩
        case measure => simp [intOf]; omega
    · have hk8 : k = 8 := by omega
      subst hk8
      go_wp2
      go_ret
      exact ⟨_, rfl, hown, hgr⟩

set_option maxHeartbeats 1000000 in
theorem rsame_any (xs ys : List UInt8) (n m : Nat) (ao bo : Option Addr) (ca cb : Nat) (w : World) (hn : Hid (xs.length = n)) (hm : Hid (ys.length = m)) (hl : n ≤ 140737488355328) (ha : At w ao xs) (hb : At w bo ys) :
    Calls Tryz.prog 151 #[.slice ao n ca, .slice bo m cb] w fun e w' => e = .returned (.bool (xs == ys)) ∧ w.grownBy w' none := by
  obtain rfl := hn.out
  obtain rfl := hm.out
  by_cases hlen : xs.length = ys.length
  · have HL : Hid (xs.length = ys.length) := hlen
    have hne : ((xs.length : Int) != (ys.length : Int)) = false := by rw [hlen]; simp
    clear hlen
    go_enter Tryz.func151, Tryz.ntmps151
    go_wp2
    go_loopw [5] (fun i wr => ∃ k : Nat, k ≤ xs.length ∧ i = .int .i64 k ∧ xs.take k = ys.take k ∧ w.grownBy wr none) (fun i _ => xs.length - (intOf i).toNat)
    case atStart => exact ⟨0, Nat.zero_le _, rfl, by simp, World.grownBy.refl _ _⟩
    case round =>
      obtain ⟨k, hk, rfl, htk, hgr⟩ := hrel
      have HT : Hid (xs.take k = ys.take k) := htk
      clear htk
      by_cases hlt : k < xs.length
      · have hlt2 : k < ys.length := by rw [← HL.out]; exact hlt
        obtain ⟨b, off, rfl, hck⟩ := (ha.below hgr) k hlt
        obtain ⟨b2, off2, rfl, hck2⟩ := (hb.below hgr) k hlt2
        clear ha hb
        by_cases he : xs[k] = ys[k]
        · have hq : (((xs[k]).toNat : Int) != ((ys[k]).toNat : Int)) = false := by rw [he]; simp
          have HE : Hid (xs[k] = ys[k]) := he
          clear he
          go_wp2_with fail
          go_quiet (fail)
          go_wp2
          go_roundw
          case rel => exact ⟨k + 1, by omega, by go_num, by rw [take_snoc hlt, take_snoc hlt2, HT.out, HE.out], gb_drewN hgr _⟩
          case measure => simp [intOf]; omega
        · have hq : (((xs[k]).toNat : Int) != ((ys[k]).toNat : Int)) = true := by
            rw [bne_iff_ne]; intro h; exact he (UInt8.toNat_inj.1 (by omega))
          have hf : (xs == ys) = false := by
            rw [beq_eq_false_iff_ne]; intro h; subst h; exact he rfl
          clear he
          go_wp2_with fail
          go_quiet (fail)
          go_wp2
          go_ret
          exact ⟨by rw [hf]; rfl, gb_drewN hgr _⟩
      · have ht : (xs == ys) = true := by
          have h := HT.out
          rw [List.take_of_length_le (by omega), List.take_of_length_le (by rw [← HL.out]; omega)] at h
          rw [h]; simp
        clear ha hb
        go_wp2
        go_ret
        exact ⟨by rw [ht]; rfl, hgr⟩
  · have hne : ((xs.length : Int) != (ys.length : Int)) = true := by rw [bne_iff_ne]; omega
    have hf : (xs == ys) = false := by rw [beq_eq_false_iff_ne]; intro h; exact hlen (by rw [h])
    clear hlen
    go_enter Tryz.func151, Tryz.ntmps151
    go_wp2
    go_ret
    exact ⟨rfl, World.grownBy.refl _ _⟩

/-- What is joined: slices of bytes, one behind the other, in a row of their own. -/
def Items (w : World) (b : Nat) (l : List (Option Addr × Nat × List UInt8)) : Prop :=
  ∀ j, (hj : j < l.length) → w.cell? ⟨b, j, none⟩ = some (.slice (l[j]).1 (l[j]).2.2.length (l[j]).2.1) ∧ At w (l[j]).1 (l[j]).2.2 ∧ ((l[j]).1 = none → (l[j]).2.1 = 0)
def cat (l : List (Option Addr × Nat × List UInt8)) : List UInt8 := (l.map fun x => x.2.2).flatten
theorem cat_snoc (l : List (Option Addr × Nat × List UInt8)) (k : Nat) (h : k < l.length) : cat (l.take (k + 1)) = cat (l.take k) ++ (l[k]).2.2 := by
  unfold cat
  rw [List.take_succ_eq_append_getElem h, List.map_append, List.flatten_append]
  simp only [List.map_cons, List.map_nil, List.flatten_cons, List.flatten_nil, List.append_nil]
theorem cat_le (l : List (Option Addr × Nat × List UInt8)) (k : Nat) : (cat (l.take k)).length ≤ (cat l).length := by
  conv => rhs; rw [← List.take_append_drop k l]
  unfold cat
  rw [List.map_append, List.flatten_append, List.length_append]
  omega
theorem Items.grown {w w' : World} {b : Nat} {l : List (Option Addr × Nat × List UInt8)} (h : Items w b l) (k : w.grownBy w' none) : Items w' b l := by
  intro j hj
  obtain ⟨h1, h2, h3⟩ := h j hj
  exact ⟨k.cell h1 (by simp), h2.below k, h3⟩

set_option maxHeartbeats 400000 in
theorem joined_any (b cap m : Nat) (l : List (Option Addr × Nat × List UInt8)) (w : World) (hm : Hid (l.length = m)) (hml : m ≤ 140737488355328) (hl : (cat l).length ≤ 140737488355328) (hi : Items w b l) :
    Calls Tryz.prog 149 #[.slice (some ⟨b, 0, none⟩) m cap] w fun e w' => ∃ o, e = .returned o ∧ w'.ownsRow w.heap.size 5 1 o (cat l).length ((cat l).map U8) ∧ w.grownBy w' none := by
  obtain ⟨i0, hif, hz0, hz1, hz2⟩ := info_parts Tryz.info5
  go_enter Tryz.func149, Tryz.ntmps149
  go_wp2
  go_loopw [3, 4] (fun o i wr => ∃ k : Nat, k ≤ m ∧ i = .int .i64 k ∧ wr.ownsRow w.heap.size 5 1 o (cat (l.take k)).length ((cat (l.take k)).map U8) ∧ w.grownBy wr none) (fun _ i _ => m - (intOf i).toNat)
  case atStart => exact ⟨0, by omega, rfl, World.ownsRow_nil _ _ _ _, World.grownBy.refl _ _⟩
  case round =>
    obtain ⟨k, hk, rfl, hown, hgr⟩ := hrel
    have hsz := hgr.size
    by_cases hlt : k < m
    · have hlt' : k < l.length := by rw [hm.out]; exact hlt
      obtain ⟨hc, hat, hnc⟩ := (hi.grown hgr) k hlt'
      have hle := cat_le l (k + 1)
      rw [cat_snoc l k hlt', List.length_append] at hle
      have hbd : (cat (l.take k)).length + ((l[k]).2.2).length ≤ 140737488355328 := by omega
      have HN : Hid ((l[k]).1 = none → (l[k]).2.1 = 0) := hnc
      clear hnc hle hi
      go_wp2_with (at_builtin; refine wpList_append_at _ rfl _ _ 32 rfl w.heap.size 5 i0 Tryz.underlying32 hif hz0 hz1 hz2 _ _ _ rfl hown _ _ _ ((l[k]).2.2) rfl rfl HN.out hat hbd hsz ?_)
      intro v' w1 hown' hg1 _
      have R : w1.ownsRow w.heap.size 5 1 v' (cat (l.take (k + 1))).length ((cat (l.take (k + 1))).map U8) ∧ w.grownBy w1 none := ⟨by rw [cat_snoc l k hlt', List.length_append, List.map_append]; exact hown', gb_row hgr hg1 (fun i hi => (hown.lt i hi).1)⟩
      clear hown hown' hg1 hgr hat hbd HN hc
      go_wp2
      go_roundw
      case rel => exact ⟨k + 1, by omega, by go_num, R.1, R.2⟩
      case measure => simp [intOf]; omega
    · have hkm : k = m := by omega
      subst hkm
      clear hi
      have hown2 : wr.ownsRow w.heap.size 5 1 u3 (cat l).length ((cat l).map U8) := by
        rw [List.take_of_length_le (by rw [hm.out]; omega)] at hown; exact hown
      clear hown
      go_wp2
      go_ret
      exact ⟨_, rfl, hown2, hgr⟩

theorem joined_n (b cap m : Nat) (l : List (Option Addr × Nat × List UInt8)) (J : List UInt8) (w : World) (hm : Hid (l.length = m)) (hJ : Hid (cat l = J)) (hml : m ≤ 140737488355328) (hl : J.length ≤ 140737488355328) (hi : Items w b l) :
    Calls Tryz.prog 149 #[.slice (some ⟨b, 0, none⟩) m cap] w fun e w' => ∃ o, e = .returned o ∧ w'.ownsRow w.heap.size 5 1 o J.length (J.map U8) ∧ w.grownBy w' none := by
  obtain rfl := hJ.out
  exact joined_any b cap m l w hm hml hl hi

end Go.Proofs.YtbanfbpfapjfcaaGreatDoor
