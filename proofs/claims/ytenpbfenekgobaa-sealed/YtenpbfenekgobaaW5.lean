/-
  Contracts of eight and of the calls warden.Seal and warden.Unseal. Conditions: in each statement.
-/
import Derived.Test.YtenpbfenekgobaaW4
namespace Go.Proofs.Ytenpbfenekgobaa
open Go.RowKit

set_option maxHeartbeats 400000 in
theorem eight_any (v : UInt64) (w : World) :
    Calls Try.prog 8 #[.int .u64 (v.toNat : Int)] w fun e w' => ∃ ao cap, e = .returned (.slice ao 8 cap) ∧ At w' ao (Pure.be v 8) ∧ w.grownBy w' none := by
  obtain ⟨i0, hi, hz0, hz1, hz2⟩ := info_parts Try.info5
  go_enter Try.func8, Try.ntmps8
  go_wp2
  go_loopw [3, 4] (fun o i wr => ∃ k : Nat, k ≤ 8 ∧ i = .int .i64 ((7 : Int) - k) ∧ wr.ownsRow w.heap.size 5 1 o k ((Pure.beTo v 8 k).map U8) ∧ w.grownBy wr none) (fun _ i _ => (intOf i + 1).toNat)
  case atStart => exact ⟨0, by omega, rfl, World.ownsRow_nil _ _ _ _, World.grownBy.refl _ _⟩
  case round =>
    obtain ⟨k, hk, rfl, hown, hgr⟩ := hrel
    have hsz := hgr.size
    by_cases hlt : k < 8
    · go_wp2_with (at_builtin; refine wpList_append_own _ rfl _ _ 23 rfl w.heap.size 5 i0 (.int .u8 0) 1 1 Try.underlying23 hi hz0 hz1 hz2 rfl (by decide) _ _ _ rfl (hown.alloc _) ⟨wr.heap.size, 0, none⟩ 1 1 ([Pure.byteAt v (7 - k)].map U8) rfl rfl ?c1 ?c2 ?c3 ?c4 ?c5 ?_)
      case c1 => exact byteAt_cells _ _ _ _
      case c2 => exact one_map _
      case c3 => unfold maxLen; omega
      case c4 => omega
      case c5 => simp; omega
      · intro v' w1 hown' hg1 _
        have R : w1.ownsRow w.heap.size 5 1 v' (k + 1) ((Pure.beTo v 8 (k + 1)).map U8) ∧ w.grownBy w1 none := ⟨by rw [Pure.beTo_succ, List.map_append]; exact hown', gb_row (gb_alloc hgr _) hg1 (fun i hi => (hown.lt i hi).1)⟩
        clear hown hown' hg1 hgr
        go_wp2
        go_roundw
        case rel => exact ⟨k + 1, by omega, by go_num, R.1, R.2⟩
        case measure => simp [intOf]; omega
    · have hk8 : k = 8 := by omega
      subst hk8
      obtain ⟨ao, cap, hv, hat⟩ : ∃ ao cap, u3 = .slice ao 8 cap ∧ At wr ao (Pure.be v 8) := by
        obtain ⟨ao, cap, hv, _, _, _, hat⟩ := own_at hown
        exact ⟨ao, cap, hv, hat⟩
      subst hv
      clear hown
      go_wp2
      go_ret
      exact ⟨ao, cap, rfl, hat, hgr⟩

set_option maxHeartbeats 400000 in
theorem wseal_use (key draw x : Int) (v : Value) (w : World) (hx : isU x = false) :
    Calls Try.prog 5 #[.int .u64 key, .int .i64 x, .int .u64 draw, v] w fun e w' => e = .returned (.tuple #[.slice none 0 0, .int .i64 1]) ∧ w = w' := by
  go_enter Try.func5, Try.ntmps5
  go_wp2_with (go_at_call 9; refine (seal_use key draw x v _ hx).mono ?_; rintro e w' ⟨rfl, rfl⟩)
  go_ret2
  exact ⟨rfl, rfl⟩
set_option maxHeartbeats 400000 in
theorem wseal_long (key draw x : Int) (ao : Option Addr) (n cap : Nat) (w : World) (hx : isU x = true) (hn : 200 < n) :
    Calls Try.prog 5 #[.int .u64 key, .int .i64 x, .int .u64 draw, .slice ao n cap] w fun e w' => e = .returned (.tuple #[.slice none 0 0, .int .i64 1]) ∧ w = w' := by
  go_enter Try.func5, Try.ntmps5
  go_wp2_with (go_at_call 9; refine (seal_long key draw x ao n cap _ hx hn).mono ?_; rintro e w' ⟨rfl, rfl⟩)
  go_ret2
  exact ⟨rfl, rfl⟩
set_option maxHeartbeats 400000 in
theorem wseal_ok (key use draw : UInt64) (x : Int) (ao : Option Addr) (zs : List UInt8) (n cap : Nat) (w : World) (hx : isU x = true) (hu : Hid (x = use.toNat)) (hn : Hid (zs.length = n)) (hl : n ≤ 200) (hz : At w ao zs) :
    Calls Try.prog 5 #[.int .u64 (key.toNat : Int), .int .i64 x, .int .u64 (draw.toNat : Int), .slice ao n cap] w fun e w' =>
      ∃ g, e = .returned (.tuple #[.slice (some ⟨g, 0, none⟩) (n + 16) (n + 16), .int .i64 0]) ∧ w.heap.size ≤ g ∧ Buf w' g (n + 16) (Pure.sealL key use draw zs) ∧ w.grownBy w' none := by
  obtain rfl := hn.out
  go_enter Try.func5, Try.ntmps5
  go_wp2_with (go_at_call 9; refine (seal_ok key use draw x ao zs cap _ hx hu.out hl hz).mono ?_; rintro e w' ⟨g, rfl, h1, h2, h3⟩)
  go_ret2
  exact ⟨g, rfl, h1, h2, h3⟩
set_option maxHeartbeats 400000 in
theorem wunseal_size (key x : Int) (ao : Option Addr) (n cap : Nat) (w : World) (hx : isU x = true) (hn : n < 16 ∨ 216 < n) :
    Calls Try.prog 6 #[.int .u64 key, .int .i64 x, .slice ao n cap] w fun e w' => e = .returned (.tuple #[.slice none 0 0, .int .i64 3]) ∧ w = w' := by
  have H : Hid (n < 16 ∨ 216 < n) := hn
  clear hn
  go_enter Try.func6, Try.ntmps6
  go_wp2_with (go_at_call 10; refine (unseal_size key x ao n cap _ hx H.out).mono ?_; rintro e w' ⟨rfl, rfl⟩)
  go_ret2
  exact ⟨rfl, rfl⟩
set_option maxHeartbeats 400000 in
theorem wunseal_yes (key use : UInt64) (x : Int) (b off : Nat) (zs : List UInt8) (L cap : Nat) (w : World) (hx : isU x = true) (hu : Hid (x = use.toNat)) (hL : Hid (zs.length = L)) (h16 : 16 ≤ L) (h216 : L ≤ 216) (hcap : L ≤ cap) (hcm : cap ≤ 9223372036854775807) (hb : b < w.heap.size) (hz : At w (some ⟨b, off, none⟩) zs) (ho : Hid (Pure.opens key use zs = true)) :
    Calls Try.prog 6 #[.int .u64 (key.toNat : Int), .int .i64 x, .slice (some ⟨b, off, none⟩) L cap] w fun e w' =>
      ∃ g, e = .returned (.tuple #[.slice (some ⟨g, 0, none⟩) (L - 16) (L - 16), .int .i64 0]) ∧ w.heap.size ≤ g ∧ Buf w' g (L - 16) (Pure.plainOf key use zs) ∧ w.grownBy w' none := by
  go_enter Try.func6, Try.ntmps6
  go_wp2_with fail
  refine (unseal_any key use x b off zs L cap _ hx hu.out hL.out h16 h216 hcap hcm hb hz).mono ?_
  rintro e w1 ⟨h1, _, h3⟩
  obtain ⟨g, rfl, h4, h5⟩ := h1 ho.out
  go_wp2
  go_ret2
  exact ⟨g, rfl, h4, h5, h3⟩
set_option maxHeartbeats 400000 in
theorem wunseal_no (key use : UInt64) (x : Int) (b off : Nat) (zs : List UInt8) (L cap : Nat) (w : World) (hx : isU x = true) (hu : Hid (x = use.toNat)) (hL : Hid (zs.length = L)) (h16 : 16 ≤ L) (h216 : L ≤ 216) (hcap : L ≤ cap) (hcm : cap ≤ 9223372036854775807) (hb : b < w.heap.size) (hz : At w (some ⟨b, off, none⟩) zs) (ho : Hid (Pure.opens key use zs = false)) :
    Calls Try.prog 6 #[.int .u64 (key.toNat : Int), .int .i64 x, .slice (some ⟨b, off, none⟩) L cap] w fun e w' =>
      e = .returned (.tuple #[.slice none 0 0, .int .i64 3]) ∧ w.grownBy w' none := by
  go_enter Try.func6, Try.ntmps6
  go_wp2_with fail
  refine (unseal_any key use x b off zs L cap _ hx hu.out hL.out h16 h216 hcap hcm hb hz).mono ?_
  rintro e w1 ⟨_, h2, h3⟩
  obtain rfl := h2 ho.out
  go_wp2
  go_ret2
  exact ⟨rfl, h3⟩

end Go.Proofs.Ytenpbfenekgobaa
