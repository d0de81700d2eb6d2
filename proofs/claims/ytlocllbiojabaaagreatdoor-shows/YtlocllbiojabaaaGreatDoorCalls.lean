/-
  Contracts of the calls warden.Seal and warden.Unseal. Conditions: in each statement.
-/
import Derived.Test.YtlocllbiojabaaaGreatDoorSeal
namespace Go.Proofs.YtlocllbiojabaaaGreatDoor
open Go.RowKit
set_option maxRecDepth 100000

set_option maxHeartbeats 400000 in
theorem wseal_use (key draw x : Int) (v : Value) (w : World) (hx : isU x = false) :
    Calls Tryz.prog 22 #[.int .u64 key, .int .i64 x, .int .u64 draw, v] w fun e w' => e = .returned (.tuple #[.slice none 0 0, .int .i64 1]) ∧ w = w' := by
  go_enter Tryz.func22, Tryz.ntmps22
  go_wp2_with (go_at_call 47; refine (seal_use key draw x v _ hx).mono ?_; rintro e w' ⟨rfl, rfl⟩)
  go_ret2
  exact ⟨rfl, rfl⟩
set_option maxHeartbeats 400000 in
theorem wseal_long (key draw x : Int) (ao : Option Addr) (n cap : Nat) (w : World) (hx : isU x = true) (hn : 200 < n) :
    Calls Tryz.prog 22 #[.int .u64 key, .int .i64 x, .int .u64 draw, .slice ao n cap] w fun e w' => e = .returned (.tuple #[.slice none 0 0, .int .i64 1]) ∧ w = w' := by
  go_enter Tryz.func22, Tryz.ntmps22
  go_wp2_with (go_at_call 47; refine (seal_long key draw x ao n cap _ hx hn).mono ?_; rintro e w' ⟨rfl, rfl⟩)
  go_ret2
  exact ⟨rfl, rfl⟩
set_option maxHeartbeats 400000 in
theorem wseal_ok (key use draw : UInt64) (x : Int) (ao : Option Addr) (zs : List UInt8) (n cap : Nat) (w : World) (hx : isU x = true) (hu : Hid (x = use.toNat)) (hn : Hid (zs.length = n)) (hl : n ≤ 200) (hz : At w ao zs) :
    Calls Tryz.prog 22 #[.int .u64 (key.toNat : Int), .int .i64 x, .int .u64 (draw.toNat : Int), .slice ao n cap] w fun e w' =>
      ∃ g, e = .returned (.tuple #[.slice (some ⟨g, 0, none⟩) (n + 16) (n + 16), .int .i64 0]) ∧ w.heap.size ≤ g ∧ Buf w' g (n + 16) (Pure.sealL key use draw zs) ∧ w.grownBy w' none := by
  obtain rfl := hn.out
  go_enter Tryz.func22, Tryz.ntmps22
  go_wp2_with (go_at_call 47; refine (seal_ok key use draw x ao zs cap _ hx hu.out hl hz).mono ?_; rintro e w' ⟨g, rfl, h1, h2, h3⟩)
  go_ret2
  exact ⟨g, rfl, h1, h2, h3⟩
set_option maxHeartbeats 400000 in
theorem wunseal_size (key x : Int) (ao : Option Addr) (n cap : Nat) (w : World) (hx : isU x = true) (hn : n < 16 ∨ 216 < n) :
    Calls Tryz.prog 25 #[.int .u64 key, .int .i64 x, .slice ao n cap] w fun e w' => e = .returned (.tuple #[.slice none 0 0, .int .i64 3]) ∧ w = w' := by
  have H : Hid (n < 16 ∨ 216 < n) := hn
  clear hn
  go_enter Tryz.func25, Tryz.ntmps25
  go_wp2_with (go_at_call 49; refine (unseal_size key x ao n cap _ hx H.out).mono ?_; rintro e w' ⟨rfl, rfl⟩)
  go_ret2
  exact ⟨rfl, rfl⟩
set_option maxHeartbeats 400000 in
theorem wunseal_yes (key use : UInt64) (x : Int) (b off : Nat) (zs : List UInt8) (L cap : Nat) (w : World) (hx : isU x = true) (hu : Hid (x = use.toNat)) (hL : Hid (zs.length = L)) (h16 : 16 ≤ L) (h216 : L ≤ 216) (hcap : L ≤ cap) (hcm : cap ≤ 9223372036854775807) (hb : b < w.heap.size) (hz : At w (some ⟨b, off, none⟩) zs) (ho : Hid (Pure.opens key use zs = true)) :
    Calls Tryz.prog 25 #[.int .u64 (key.toNat : Int), .int .i64 x, .slice (some ⟨b, off, none⟩) L cap] w fun e w' =>
      ∃ g, e = .returned (.tuple #[.slice (some ⟨g, 0, none⟩) (L - 16) (L - 16), .int .i64 0]) ∧ w.heap.size ≤ g ∧ Buf w' g (L - 16) (Pure.plainOf key use zs) ∧ w.grownBy w' none := by
  go_enter Tryz.func25, Tryz.ntmps25
  go_wp2_with fail
  refine (unseal_any key use x b off zs L cap _ hx hu.out hL.out h16 h216 hcap hcm hb hz).mono ?_
  rintro e w1 ⟨h1, _, h3⟩
  obtain ⟨g, rfl, h4, h5⟩ := h1 ho.out
  go_wp2
  go_ret2
  exact ⟨g, rfl, h4, h5, h3⟩
set_option maxHeartbeats 400000 in
theorem wunseal_no (key use : UInt64) (x : Int) (b off : Nat) (zs : List UInt8) (L cap : Nat) (w : World) (hx : isU x = true) (hu : Hid (x = use.toNat)) (hL : Hid (zs.length = L)) (h16 : 16 ≤ L) (h216 : L ≤ 216) (hcap : L ≤ cap) (hcm : cap ≤ 9223372036854775807) (hb : b < w.heap.size) (hz : At w (some ⟨b, off, none⟩) zs) (ho : Hid (Pure.opens key use zs = false)) :
    Calls Tryz.prog 25 #[.int .u64 (key.toNat : Int), .int .i64 x, .slice (some ⟨b, off, none⟩) L cap] w fun e w' =>
      e = .returned (.tuple #[.slice none 0 0, .int .i64 3]) ∧ w.grownBy w' none := by
  go_enter Tryz.func25, Tryz.ntmps25
  go_wp2_with fail
  refine (unseal_any key use x b off zs L cap _ hx hu.out hL.out h16 h216 hcap hcm hb hz).mono ?_
  rintro e w1 ⟨_, h2, h3⟩
  obtain rfl := h2 ho.out
  go_wp2
  go_ret2
  exact ⟨rfl, h3⟩

end Go.Proofs.YtlocllbiojabaaaGreatDoor
