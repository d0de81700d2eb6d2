/-
  Contracts of package seal: Seal and Unseal, each way through them. Conditions: in each statement (use, length, what opens).
-/
import Derived.Test.YtlocllbiojabaaaGreatDoorHead
import Derived.Deep.RegionWith
import Derived.Deep.QuietTactic
import Derived.BigQuiet
namespace Go.Proofs.YtlocllbiojabaaaGreatDoor
open Go.RowKit
set_option maxRecDepth 100000

set_option maxHeartbeats 400000 in
theorem seal_use (key draw x : Int) (v : Value) (w : World) (hx : isU x = false) :
    Calls Tryz.prog 47 #[.int .u64 key, .int .i64 x, .int .u64 draw, v] w fun e w' => e = .returned (.tuple #[.slice none 0 0, .int .i64 1]) ∧ w = w' := by
  go_enter Tryz.func47, Tryz.ntmps47
  go_wp2_with (go_at_call 80; refine (isUse_any _ _).mono ?_; rintro e w' ⟨rfl, rfl⟩)
  go_ret2
  exact ⟨rfl, rfl⟩

set_option maxHeartbeats 400000 in
theorem seal_long (key draw x : Int) (ao : Option Addr) (n cap : Nat) (w : World) (hx : isU x = true) (hn : 200 < n) :
    Calls Tryz.prog 47 #[.int .u64 key, .int .i64 x, .int .u64 draw, .slice ao n cap] w fun e w' => e = .returned (.tuple #[.slice none 0 0, .int .i64 1]) ∧ w = w' := by
  go_enter Tryz.func47, Tryz.ntmps47
  go_wp2_with (go_at_call 80; refine (isUse_any _ _).mono ?_; rintro e w' ⟨rfl, rfl⟩)
  go_ret2
  exact ⟨rfl, rfl⟩

set_option maxHeartbeats 400000 in
theorem seal_ok (key use draw : UInt64) (x : Int) (ao : Option Addr) (zs : List UInt8) (cap : Nat) (w : World) (hx : isU x = true) (hu : x = use.toNat) (hl : zs.length ≤ 200) (hz : At w ao zs) :
    Calls Tryz.prog 47 #[.int .u64 (key.toNat : Int), .int .i64 x, .int .u64 (draw.toNat : Int), .slice ao zs.length cap] w fun e w' =>
      ∃ g, e = .returned (.tuple #[.slice (some ⟨g, 0, none⟩) (zs.length + 16) (zs.length + 16), .int .i64 0]) ∧ w.heap.size ≤ g ∧ Buf w' g (zs.length + 16) (Pure.sealL key use draw zs) ∧ w.grownBy w' none := by
  obtain ⟨i0, hi, hz0, hz1, hz2⟩ := info_parts Tryz.info5
  have hmk : ∀ w, (Instr.makeSlice 37 (.int .i64 0) (.int .i64 ((zs.length : Int) + 16))).run Tryz.prog w = .ok (.slice (some ⟨w.heap.size, 0, none⟩) 0 (zs.length + 16)) (w.alloc (.cells (madeCells #[.int .u8 0] (zs.length + 16)) 5)) :=
    fun w => by have := run_make_bytes (P := Tryz.prog) 37 5 i0 Tryz.underlying37 hi hz0 hz1 hz2 (zs.length + 16) (by omega) w; simpa using this
  have hv : use.toNat < 9223372036854775808 := by simp [isU] at hx; omega
  have HU : Hid (x = use.toNat) := hu
  clear hu
  go_enter Tryz.func47, Tryz.ntmps47
  go_wp2_with (first | (go_at_call 80; refine (isUse_any _ _).mono ?_; rintro e w' ⟨rfl, rfl⟩) | (go_at_call 81; refine (hashHead_any key use draw x _ HU.out hv).mono ?_; rintro e w1 ⟨rfl, hg1⟩))
  refine (append64_any w1.heap.size (zs.length + 16) [] draw 8 0 _ (Buf.made w1 _ _ (by omega)) rfl (by omega) (by simp)).mono ?_
  rintro e w2 ⟨rfl, hb2, hg2⟩
  have G2 : w.grownBy w2 none := gb_new (gb_alloc hg1 _) hg2 hg1.size
  have hz2' := hz.below G2
  have hge := hg1.size
  go_wp2_with fail
  refine (veil_any w1.heap.size (zs.length + 16) 8 _ (Pure.head key use draw) zs ao cap _ hb2 (by simp [Pure.be_length]) hz2' ?d1 (by omega) (by simp [Pure.be_length]; omega)).mono ?_
  case d1 =>
    intro b off he hne
    obtain ⟨b', off', h1, h2⟩ := hz 0 (List.length_pos_iff.2 hne)
    rw [he] at h1
    simp at h1
    have := World.block_lt_of_cell? w _ h2
    simp at this
    omega
  rintro e w3 ⟨rfl, hb3, hg3⟩
  have G3 : w.grownBy w3 none := gb_new G2 hg3 hge
  have hz3 := hz.below G3
  clear hb2 hg2 hg3 hz2'
  go_wp2_with fail
  refine (hashOn_any (Pure.head key use draw) zs ao cap _ (by omega) hz3).mono ?_
  rintro e w4 ⟨rfl, rfl⟩
  go_wp2_with fail
  refine (append64_any w1.heap.size (zs.length + 16) _ (Pure.hashL (Pure.head key use draw) zs) 8 (8 + zs.length) _ hb3 (by simp [Pure.be_length, Pure.veil_length]) (by omega) (by simp [Pure.be_length, Pure.veil_length]; omega)).mono ?_
  rintro e w5 ⟨rfl, hb5, hg5⟩
  have G5 : w.grownBy w5 none := gb_new G3 hg5 hge
  have B5 : Buf w5 w1.heap.size (zs.length + 16) (Pure.sealL key use draw zs) := by simpa [Pure.sealL] using hb5
  clear hb3 hb5 hg5 G2 G3 hz3
  go_wp2
  go_ret2
  exact ⟨w1.heap.size, by simp; omega, hge, B5, G5⟩

theorem tup_slice {g : Option Addr} {a b c : Nat} {k : Int} (h : a = b) : Ending.returned (.tuple #[.slice g a c, .int .i64 k]) = .returned (.tuple #[.slice g b c, .int .i64 k]) := by rw [h]

theorem hashOn_n (h : UInt64) (zs : List UInt8) (n : Nat) (ao : Option Addr) (cap : Nat) (w : World) (hn : zs.length = n) (hl : n ≤ 140737488355328) (hc : At w ao zs) :
    Calls Tryz.prog 79 #[.int .u64 (h.toNat : Int), .slice ao n cap] w fun e w' => e = .returned (.int .u64 ((Pure.hashL h zs).toNat : Int)) ∧ w = w' := by
  subst hn
  exact hashOn_any h zs ao cap w hl hc
theorem join_n (h : UInt64) (zs : List UInt8) (n : Nat) (ao : Option Addr) (cap : Nat) (w : World) (hn : zs.length = n) (hl : n ≤ 140737488355328) (hc : At w ao zs) :
    Calls Tryz.prog 86 #[.int .u64 (h.toNat : Int), .slice ao n cap] w fun e w' => e = .returned (.int .u64 ((Pure.joinL h zs).toNat : Int)) ∧ w = w' := by
  subst hn
  exact join_any h zs ao cap w hl hc
theorem veil_n (g cap n m : Nat) (bs : List UInt8) (head : UInt64) (zs : List UInt8) (ao : Option Addr) (ci : Nat) (w : World) (hb : Buf w g cap bs) (hn : n = bs.length) (hm : zs.length = m) (hz : At w ao zs)
    (hne : ∀ b off, ao = some ⟨b, off, none⟩ → zs ≠ [] → b ≠ g) (hl : m ≤ 140737488355328) (hr : bs.length + m ≤ cap) :
    Calls Tryz.prog 83 #[.slice (some ⟨g, 0, none⟩) n cap, .int .u64 (head.toNat : Int), .slice ao m ci] w fun e w' => e = .returned (.slice (some ⟨g, 0, none⟩) (n + m) cap) ∧ Buf w' g cap (bs ++ Pure.veil head zs) ∧ w.grownBy w' (some g) := by
  subst hm
  exact veil_any g cap n bs head zs ao ci w hb hn hz hne hl hr

theorem hashOn_q (h : UInt64) (zs : List UInt8) (n : Nat) (ao : Option Addr) (cap : Nat) (w : World) (nq : Nat) (hn : Hid (zs.length = n)) (hl : n ≤ 140737488355328) (hc : At w ao zs) :
    Calls Tryz.prog 79 #[.int .u64 (h.toNat : Int), .slice ao n cap] (w.drewN nq) fun e w'' => e = .returned (.int .u64 ((Pure.hashL h zs).toNat : Int)) ∧ ∃ m, w'' = w.drewN m :=
  (hashOn_n h zs n ao cap _ hn hl (hc.drewN nq)).mono fun _ _ ⟨h1, h2⟩ => ⟨h1, nq, h2.symm⟩
theorem join_q (h : UInt64) (zs : List UInt8) (n : Nat) (ao : Option Addr) (cap : Nat) (w : World) (nq : Nat) (hn : Hid (zs.length = n)) (hl : n ≤ 140737488355328) (hc : At w ao zs) :
    Calls Tryz.prog 86 #[.int .u64 (h.toNat : Int), .slice ao n cap] (w.drewN nq) fun e w'' => e = .returned (.int .u64 ((Pure.joinL h zs).toNat : Int)) ∧ ∃ m, w'' = w.drewN m :=
  (join_n h zs n ao cap _ hn hl (hc.drewN nq)).mono fun _ _ ⟨h1, h2⟩ => ⟨h1, nq, h2.symm⟩

set_option maxHeartbeats 400000 in
theorem unseal_use (key x : Int) (v : Value) (w : World) (hx : isU x = false) :
    Calls Tryz.prog 49 #[.int .u64 key, .int .i64 x, v] w fun e w' => e = .returned (.tuple #[.slice none 0 0, .int .i64 1]) ∧ w = w' := by
  go_enter Tryz.func49, Tryz.ntmps49
  go_wp2_with (go_at_call 80; refine (isUse_any _ _).mono ?_; rintro e w' ⟨rfl, rfl⟩)
  go_ret2
  exact ⟨rfl, rfl⟩

set_option maxHeartbeats 400000 in
theorem unseal_size (key x : Int) (ao : Option Addr) (n cap : Nat) (w : World) (hx : isU x = true) (hn : n < 16 ∨ 216 < n) :
    Calls Tryz.prog 49 #[.int .u64 key, .int .i64 x, .slice ao n cap] w fun e w' => e = .returned (.tuple #[.slice none 0 0, .int .i64 3]) ∧ w = w' := by
  rcases hn with hn | hn
  · go_enter Tryz.func49, Tryz.ntmps49
    go_wp2_with (go_at_call 80; refine (isUse_any _ _).mono ?_; rintro e w' ⟨rfl, rfl⟩)
    go_ret2
    exact ⟨rfl, rfl⟩
  · have h16 : ¬ n < 16 := by omega
    go_enter Tryz.func49, Tryz.ntmps49
    go_wp2_with (go_at_call 80; refine (isUse_any _ _).mono ?_; rintro e w' ⟨rfl, rfl⟩)
    go_ret2
    exact ⟨rfl, rfl⟩

set_option maxHeartbeats 400000 in
theorem unseal_any (key use : UInt64) (x : Int) (b off : Nat) (zs : List UInt8) (L cap : Nat) (w : World) (hx : isU x = true) (hu : x = use.toNat) (hL : zs.length = L) (h16 : 16 ≤ L) (h216 : L ≤ 216) (hcap : L ≤ cap) (hcm : cap ≤ 9223372036854775807) (hb : b < w.heap.size) (hz : At w (some ⟨b, off, none⟩) zs) :
    Calls Tryz.prog 49 #[.int .u64 (key.toNat : Int), .int .i64 x, .slice (some ⟨b, off, none⟩) L cap] w fun e w' =>
      (Pure.opens key use zs = true → ∃ g, e = .returned (.tuple #[.slice (some ⟨g, 0, none⟩) (L - 16) (L - 16), .int .i64 0]) ∧ w.heap.size ≤ g ∧ Buf w' g (L - 16) (Pure.plainOf key use zs)) ∧
      (Pure.opens key use zs = false → e = .returned (.tuple #[.slice none 0 0, .int .i64 3])) ∧ w.grownBy w' none := by
  obtain ⟨i0, hi, hz0, hz1, hz2⟩ := info_parts Tryz.info5
  have hmk2 : ∀ w, (Instr.makeSlice 37 (.int .i64 0) (.int .i64 ((L : Int) - 8 - 8))).run Tryz.prog w = .ok (.slice (some ⟨w.heap.size, 0, none⟩) 0 (L - 16)) (w.alloc (.cells (madeCells #[.int .u8 0] (L - 16)) 5)) :=
    fun w => by have := run_make_bytes (P := Tryz.prog) 37 5 i0 Tryz.underlying37 hi hz0 hz1 hz2 (L - 16) (by omega) w; rw [show ((L - 16 : Nat) : Int) = (L : Int) - 8 - 8 from by omega] at this; exact this
  have hmk : ∀ w, (Instr.makeSlice 37 (.int .i64 0) (.int .i64 (IntKind.i64.wrap ((L : Int) - 8 - 8)))).run Tryz.prog w = .ok (.slice (some ⟨w.heap.size, 0, none⟩) 0 (L - 16)) (w.alloc (.cells (madeCells #[.int .u8 0] (L - 16)) 5)) :=
    fun w => by have := run_make_bytes (P := Tryz.prog) 37 5 i0 Tryz.underlying37 hi hz0 hz1 hz2 (L - 16) (by omega) w; rw [show ((L - 16 : Nat) : Int) = IntKind.i64.wrap ((L : Int) - 8 - 8) from by rw [IntKind.wrap_i64]; omega] at this; exact this
  have hv : use.toNat < 9223372036854775808 := by simp [isU] at hx; omega
  have HU : Hid (x = use.toNat) := hu
  have HL : Hid (zs.length = L) := hL
  have n16 : ¬ L < 16 := by omega
  clear hu hL
  go_enter Tryz.func49, Tryz.ntmps49
  go_wp2_with (go_at_call 80; refine (isUse_any _ _).mono ?_; rintro e w' ⟨rfl, rfl⟩)
  refine (join_n 0 (zs.take 8) 8 _ _ _ (by rw [List.length_take, HL.out]; omega) (by omega) (hz.take 8)).mono ?_
  rintro e w' ⟨rfl, rfl⟩
  go_wp2_with fail
  refine (hashHead_any key use (Pure.drawOf zs) x _ HU.out hv).mono ?_
  rintro e w1 ⟨rfl, hg1⟩
  have hz1' := hz.below hg1
  have hb1 : b < w1.heap.size := Nat.lt_of_lt_of_le hb hg1.size
  go_wp2_with fail
  have hbf : Buf (w1.alloc (.cells (madeCells #[.int .u8 0] (L - 16)) 5)).drew w1.heap.size (L - 16) [] := Buf.made w1 5 (L - 16) (by omega)
  have hat : At (w1.alloc (.cells (madeCells #[.int .u8 0] (L - 16)) 5)).drew (some ⟨b, off + 8, none⟩) ((zs.drop 8).take (L - 16)) := ((hz1'.drop 8).take _).below (gb_drew (World.grownBy_alloc _ _ _))
  have HM : Hid (((zs.drop 8).take (L - 16)).length = L - 8 - 8) := by have h := HL.out; show _ = _; simp; omega
  have hne : ∀ b' off', some (⟨b, off + 8, none⟩ : Addr) = some ⟨b', off', none⟩ → (zs.drop 8).take (L - 16) ≠ [] → b' ≠ w1.heap.size := by intro b' off' h _; simp at h; omega
  have hle : L - 8 - 8 ≤ 140737488355328 := by omega
  have hrr : ([] : List UInt8).length + (L - 8 - 8) ≤ L - 16 := by simp; omega
  go_region_with (go_at_call 83; refine (veil_n w1.heap.size (L - 16) 0 (L - 8 - 8) [] (Pure.head key use (Pure.drawOf zs)) ((zs.drop 8).take (L - 16)) _ _ _ hbf rfl HM.out hat hne hle hrr).mono ?_; rintro e w2 ⟨rfl, hb2, hg2⟩)
  all_goals (clear hbf hat hne hle hrr hmk hmk2)
  all_goals
    have hpl : Pure.plainOf key use zs = [] ++ Pure.veil (Pure.head key use (Pure.drawOf zs)) ((zs.drop 8).take (L - 16)) := by unfold Pure.plainOf; rw [HL.out]; rfl
    rw [← hpl] at hb2
    have G2 : w.grownBy w2 none := gb_new (gb_drew (gb_alloc hg1 _)) hg2 hg1.size
    clear hpl hg2
    have hz2' := hz.below G2
    have hend : At w2 (some ⟨b, off + (L - 8), none⟩) (zs.drop (L - 8)) := hz2'.drop _
    have hdl : Hid ((zs.drop (L - 8)).length = 8) := by have h := HL.out; show _ = _; simp; omega
    have hpl : Hid ((Pure.plainOf key use zs).length = L - 8 - 8) := by have h := HL.out; show _ = _; rw [Pure.plainOf_length]; omega
    have hsl : ∀ w, (Instr.sliceAt 37 (.slice (some ⟨b, off, none⟩) L cap) (some (.int .i64 ((L : Int) - 8))) none none).run Tryz.prog w = .ok (.slice (some ⟨b, off + (L - 8), none⟩) 8 (cap - (L - 8))) w := by
      intro w
      have h := run_slice_from (P := Tryz.prog) 37 5 i0 Tryz.underlying37 hi hz1 b off L cap (L - 8) ((L : Int) - 8) (by omega) (by omega) (by omega) w
      rw [show L - (L - 8) = 8 from by omega] at h
      exact h
    have hle : L - 8 - 8 ≤ 140737488355328 := by omega
    have h8 : 8 ≤ 140737488355328 := by omega
    cases ho : Pure.opens key use zs
    all_goals
     have hbn := Pure.opens_bne key use zs L HL.out _ ho
     have HO := ho
     go_wp2_with fail
     go_quiet (first | (go_at_call 79; exact hashOn_q (Pure.head key use (Pure.drawOf zs)) (Pure.plainOf key use zs) (L - 8 - 8) _ _ w2 _ hpl hle hb2.at) | (go_at_call 86; refine join_q 0 (zs.drop (L - 8)) 8 _ _ w2 _ hdl h8 hend))
     go_wp2
     go_ret2
     first
       | exact ⟨fun h => absurd h (by rw [HO]; decide), fun _ => rfl, gb_drewN G2 _⟩
       | exact ⟨fun _ => ⟨w1.heap.size, tup_slice (by omega), hg1.size, hb2⟩, fun h => absurd h (by rw [HO]; decide), gb_drewN G2 _⟩

end Go.Proofs.YtlocllbiojabaaaGreatDoor
