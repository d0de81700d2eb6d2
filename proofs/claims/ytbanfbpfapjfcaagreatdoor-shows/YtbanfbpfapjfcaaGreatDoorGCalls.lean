/-
  Contracts of the calls warden.Seal and warden.Unseal. Conditions: in each statement.
-/
import Derived.Test.YtbanfbpfapjfcaaGreatDoorGOpen
namespace Go.Proofs.YtbanfbpfapjfcaaGreatDoor
open Go.RowKit
set_option maxRecDepth 100000

set_option maxHeartbeats 400000 in
theorem wseal_use (key draw x : Int) (v : Value) (w : World) (hx : isU x = false) :
    Calls Tryz.prog 41 #[.int .u64 key, .int .i64 x, .int .u64 draw, v] w fun e w' => e = .returned (.tuple #[.slice none 0 0, .int .i64 1]) ∧ w = w' := by
  go_enter Tryz.func41, Tryz.ntmps41
  go_wp2_with (go_at_call 62; refine (seal_use key draw x v _ hx).mono ?_; rintro e w' ⟨rfl, rfl⟩)
  go_ret2
  exact ⟨rfl, rfl⟩
set_option maxHeartbeats 400000 in
theorem wseal_long (key draw x : Int) (ao : Option Addr) (n cap : Nat) (w : World) (hx : isU x = true) (hn : 200 < n) :
    Calls Tryz.prog 41 #[.int .u64 key, .int .i64 x, .int .u64 draw, .slice ao n cap] w fun e w' => e = .returned (.tuple #[.slice none 0 0, .int .i64 1]) ∧ w = w' := by
  go_enter Tryz.func41, Tryz.ntmps41
  go_wp2_with (go_at_call 62; refine (seal_long key draw x ao n cap _ hx hn).mono ?_; rintro e w' ⟨rfl, rfl⟩)
  go_ret2
  exact ⟨rfl, rfl⟩
set_option maxHeartbeats 400000 in
theorem wseal_ok (key use draw : UInt64) (x : Int) (ao : Option Addr) (zs : List UInt8) (n cap : Nat) (w : World) (hx : isU x = true) (hu : Hid (x = use.toNat)) (hn : Hid (zs.length = n)) (hl : n ≤ 200) (hz : At w ao zs) :
    Calls Tryz.prog 41 #[.int .u64 (key.toNat : Int), .int .i64 x, .int .u64 (draw.toNat : Int), .slice ao n cap] w fun e w' =>
      ∃ g, e = .returned (.tuple #[.slice (some ⟨g, 0, none⟩) (n + 16) (n + 16), .int .i64 0]) ∧ w.heap.size ≤ g ∧ Buf w' g (n + 16) (Pure.sealL key use draw zs) ∧ w.grownBy w' none := by
  obtain rfl := hn.out
  go_enter Tryz.func41, Tryz.ntmps41
  go_wp2_with (go_at_call 62; refine (seal_ok key use draw x ao zs cap _ hx hu.out hl hz).mono ?_; rintro e w' ⟨g, rfl, h1, h2, h3⟩)
  go_ret2
  exact ⟨g, rfl, h1, h2, h3⟩
set_option maxHeartbeats 400000 in
theorem wunseal_size (key x : Int) (ao : Option Addr) (n cap : Nat) (w : World) (hx : isU x = true) (hn : n < 16 ∨ 216 < n) :
    Calls Tryz.prog 61 #[.int .u64 key, .int .i64 x, .slice ao n cap] w fun e w' => e = .returned (.tuple #[.slice none 0 0, .int .i64 3]) ∧ w = w' := by
  have H : Hid (n < 16 ∨ 216 < n) := hn
  clear hn
  go_enter Tryz.func61, Tryz.ntmps61
  go_wp2_with (go_at_call 93; refine (unseal_size key x ao n cap _ hx H.out).mono ?_; rintro e w' ⟨rfl, rfl⟩)
  go_ret2
  exact ⟨rfl, rfl⟩
set_option maxHeartbeats 400000 in
theorem wunseal_yes (key use : UInt64) (x : Int) (ao : Option Addr) (zs : List UInt8) (L cap : Nat) (w : World) (hx : isU x = true) (hu : Hid (x = use.toNat)) (hL : Hid (zs.length = L)) (h16 : 16 ≤ L) (h216 : L ≤ 216) (hcap : L ≤ cap) (hz : At w ao zs) (ho : Hid (Pure.opens key use zs = true)) :
    Calls Tryz.prog 61 #[.int .u64 (key.toNat : Int), .int .i64 x, .slice ao L cap] w fun e w' => ∃ v p, e = .returned (.tuple #[v, .int .i64 0]) ∧ Out w' v p (Pure.plainOf key use zs) ∧ Pl.fresh w.heap.size p ∧ w.grownBy w' none := by
  go_enter Tryz.func61, Tryz.ntmps61
  go_wp2_with fail
  refine (unseal_yes key use x ao zs L cap _ hx hu hL h16 h216 hcap hz ho).mono ?_
  rintro e w1 ⟨v, p, rfl, h3, h4, h5⟩
  go_wp2
  go_ret2
  exact ⟨v, p, rfl, h3, h4, h5⟩
set_option maxHeartbeats 400000 in
theorem wunseal_no (key use : UInt64) (x : Int) (ao : Option Addr) (zs : List UInt8) (L cap : Nat) (w : World) (hx : isU x = true) (hu : Hid (x = use.toNat)) (hL : Hid (zs.length = L)) (h16 : 16 ≤ L) (h216 : L ≤ 216) (hcap : L ≤ cap) (hz : At w ao zs) (ho : Hid (Pure.opens key use zs = false)) :
    Calls Tryz.prog 61 #[.int .u64 (key.toNat : Int), .int .i64 x, .slice ao L cap] w fun e w' => e = .returned (.tuple #[.slice none 0 0, .int .i64 3]) ∧ w.grownBy w' none := by
  go_enter Tryz.func61, Tryz.ntmps61
  go_wp2_with fail
  refine (unseal_no key use x ao zs L cap _ hx hu hL h16 h216 hcap hz ho).mono ?_
  rintro e w1 ⟨rfl, h3⟩
  go_wp2
  go_ret2
  exact ⟨rfl, h3⟩

end Go.Proofs.YtbanfbpfapjfcaaGreatDoor
