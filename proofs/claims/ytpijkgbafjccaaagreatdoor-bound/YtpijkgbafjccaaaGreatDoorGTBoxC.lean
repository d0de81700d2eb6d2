/-
  
  
-/
import Derived.Test.YtpijkgbafjccaaaGreatDoorGTBoxA
import Derived.Test.YtpijkgbafjccaaaGreatDoorGTShelf
import Derived.Test.YtpijkgbafjccaaaGreatDoorGTBase
namespace Go.Proofs.YtpijkgbafjccaaaGreatDoor
open Go.RowKit
set_option maxRecDepth 100000
theorem comp_int (v : Int) (h0 : -9223372036854775808 ≤ v) (h1 : v ≤ 9223372036854775807) : ∃ m : Nat,IntKind.u64.wrap (bits .xor .i64 v (v / 9223372036854775808)) = (m : Int) ∧ (m : Int) = if v < 0 then -v - 1 else v := by
 by_cases h : v < 0
 ·refine ⟨(-v - 1).toNat,?_,by rw [if_pos h]; omega⟩
  have e : v / 9223372036854775808 = -1 := by omega
  have hx : bits .xor .i64 v (-1) = -v - 1 := by
   show IntKind.i64.wrap ((BitVec.ofInt 64 v ^^^ BitVec.ofInt 64 (-1)).toNat : Int) = _
   have h1 : BitVec.ofInt 64 (-1) = BitVec.allOnes 64 := by decide
   rw [h1,BitVec.xor_allOnes,BitVec.toNat_not,BitVec.toNat_ofInt,IntKind.wrap_i64]
   omega
  rw [e,hx,IntKind.wrap_u64]
  omega
 ·refine ⟨v.toNat,?_,by rw [if_neg h]; omega⟩
  have e : v / 9223372036854775808 = 0 := by omega
  have hx : bits .xor .i64 v 0 = v := by
   show IntKind.i64.wrap ((BitVec.ofInt 64 v ^^^ BitVec.ofInt 64 0).toNat : Int) = _
   have h1 : BitVec.ofInt 64 0 = 0#64 := by decide
   rw [h1,BitVec.xor_zero,BitVec.toNat_ofInt,IntKind.wrap_i64]
   omega
  rw [e,hx,IntKind.wrap_u64]
  omega
set_option maxHeartbeats 400000 in
theorem numberSize_any (v : Int) (w : World) (h0 : -9223372036854775808 ≤ v) (h1 : v ≤ 9223372036854775807) :
  Calls Tryz.prog 160 #[.int .i64 v] w fun e w' => e = .returned (.int .i64 (Box.size v : Int)) ∧ w = w' := by
 obtain ⟨m,hm,hmv⟩ := comp_int v h0 h1
 have HS := hid (Box.size_bits v h0 h1 m hmv)
 have hm1 : m < 18446744073709551616 := by split at hmv <;> omega
 have hb := (Box.bitLen_le (k := 64) hm1).2 hm1
 have HM := hid hm
 clear hm hmv
 go_enter Tryz.func160,Tryz.ntmps160
 go_wp2_with fail
 rw [HM.out]
 refine (Go.Proofs.Tryz.bits_Len64 (m : Int) _ (by omega) (by omega)).mono ?_
 rintro e w' ⟨rfl,rfl⟩
 rw [Int.toNat_natCast]
 generalize Lib.bitLen m = bl at *
 go_wp2
 go_ret
 refine ⟨ret_i64 ?_,rfl⟩
 rw [← HS.out]
 omega
theorem fold_mod (l : List UInt8) (k : Nat) (v : Int) (h : (k : Int) % 18446744073709551616 = v % 18446744073709551616) :
  ((l.foldl (fun n b => n * 256 + b.toNat) k : Nat) : Int) % 18446744073709551616 = Box.valFrom v l % 18446744073709551616 := by
 induction l generalizing k v with
 | nil => exact h
 | cons b l ih => exact ih (k * 256 + b.toNat) (v * 256 + (b.toNat : Int)) (by omega)
theorem join_val (l : List UInt8) (h1 : 1 ≤ l.length) (h8 : l.length ≤ 8) (h : UInt64) (hh : IntKind.u64.wrap (Box.sign (l.getD 0 0)) = (h.toNat : Int)) :
  IntKind.i64.wrap ((Pure.joinL h (l.drop 1)).toNat : Int) = Box.val l := by
 rw [Pure.joinL_toNat]
 have hb := Box.val_bounds h1 h8
 rw [IntKind.wrap_u64] at hh
 have hm := fold_mod (l.drop 1) h.toNat (Box.sign (l.getD 0 0)) (by omega)
 rw [show Box.valFrom (Box.sign (l.getD 0 0)) (l.drop 1) = Box.val l from rfl] at hm
 generalize (l.drop 1).foldl (fun n b => n * 256 + b.toNat) h.toNat = f at *
 rw [IntKind.wrap_i64]
 simp only [Nat.reducePow]
 omega
theorem joinL_q (x : Int) (h : UInt64) (zs : List UInt8) (n : Nat) (ao : Option Addr) (cap : Nat) (w : World) (nq : Nat) (hx : Hid (IntKind.u64.wrap x = h.toNat)) (r : Int) (hr : Hid (IntKind.i64.wrap ((Pure.joinL h zs).toNat : Int) = r)) (hn : Hid (zs.length = n)) (hl : n ≤ 140737488355328) (hc : At w ao zs) :
  Calls Tryz.prog 159 #[.int .i64 x,.slice ao n cap] (w.drewN nq) fun e w'' => e = .returned (.int .i64 r) ∧ ∃ m,w'' = w.drewN m :=
 (joinL_any x h zs n ao cap _ hx r hr hn hl (hc.drewN nq)).mono fun _ _ ⟨h1,h2⟩ => ⟨h1,nq,h2.symm⟩
theorem sign_int (b : UInt8) : IntKind.i8.wrap (b.toNat : Int) = Box.sign b := by
 have := b.toNat_lt
 unfold Box.sign
 simp [IntKind.wrap,IntKind.bits,IntKind.signed]
 split <;> omega
set_option maxHeartbeats 1000000 in
theorem readNumber_any (zs : List UInt8) (n : Nat) (ao : Option Addr) (cap : Nat) (w : World) (hn : Hid (zs.length = n)) (hl : n ≤ 140737488355328) (hcap : n ≤ cap) (hc : At w ao zs) :
  Calls Tryz.prog 122 #[.slice ao n cap] w fun e w' =>
   (∀ v,Box.num zs = some v → e = .returned (.tuple #[.int .i64 v,.bool true])) ∧
   (Box.num zs = none → e = .returned (.tuple #[.int .i64 0,.bool false])) ∧ ∃ m,w' = w.drewN m := by
 by_cases h1 : 1 ≤ n
 ·by_cases h8 : n ≤ 8
  ·have hp : 0 < zs.length := by rw [hn.out]; exact h1
   have hb := Box.val_bounds (l := zs) (by omega) (by rw [hn.out]; exact h8)
   obtain ⟨b,off,rfl,hc0⟩ := hc 0 hp
   have E0 : Hid (zs.getD 0 0 = zs[0]) := by show _ = _; simp [List.getD,List.getElem?_eq_getElem hp]
   rw [Nat.add_zero] at hc0
   generalize hz0 : zs[0] = z0 at *
   clear hz0
   obtain ⟨i0,hi,hz0,hz1,hz2⟩ := info_parts Tryz.info5
   have hp1 : 0 < n := h1
   have hp2 : (0 : Int) < (n : Int) := by omega
   have hn1 : ¬ ((n : Int) < 1) := by omega
   have hn8 : ¬ ((8 : Int) < (n : Int)) := by omega
   obtain ⟨a1,hs1,hat1⟩ := slice_from 26 5 i0 Tryz.underlying26 hi hz1 (some ⟨b,off,none⟩) n cap hn hcap 1 1 rfl h1
   replace hat1 := hat1 _ hc
   have HL1 : Hid ((zs.drop 1).length = n - 1) := by show _ = _; rw [List.length_drop,hn.out]
   have hsb := Box.sign_bounds z0
   have HX : Hid (IntKind.u64.wrap (Box.sign z0) = (((UInt64.ofNat (IntKind.u64.wrap (Box.sign z0)).toNat).toNat : Nat) : Int)) := by
    show _ = _
    have : 0 ≤ IntKind.u64.wrap (Box.sign z0) ∧ IntKind.u64.wrap (Box.sign z0) < 18446744073709551616 := by rw [IntKind.wrap_u64]; omega
    rw [Pure.ofNat_small _ (by omega)]
    omega
   have HR : Hid (IntKind.i64.wrap ((Pure.joinL (UInt64.ofNat (IntKind.u64.wrap (Box.sign z0)).toNat) (zs.drop 1)).toNat : Int) = Box.val zs) :=
    join_val zs (by omega) (by rw [hn.out]; exact h8) _ (by rw [E0.out]; exact HX.out)
   have hle : n - 1 ≤ 140737488355328 := by omega
   clear hc hp
   generalize hh : UInt64.ofNat (IntKind.u64.wrap (Box.sign z0)).toNat = hd at *
   clear hh
   have HX2 : Hid (IntKind.u64.wrap (IntKind.i64.wrap (IntKind.i8.wrap (z0.toNat : Int))) = (hd.toNat : Int)) := by
    show _ = _
    rw [sign_int,wrap_small (by omega) (by omega)]
    exact HX.out
   clear HX hsb
   go_enter Tryz.func122,Tryz.ntmps122
   go_wp2_with fail
   go_quiet (first | (go_at_call 159; exact joinL_q (IntKind.i64.wrap (IntKind.i8.wrap (z0.toNat : Int))) hd (zs.drop 1) (n - 1) a1 (cap - 1) w _ HX2 _ HR HL1 hle hat1))
   by_cases hs : Box.size (Box.val zs) = n
   ·have hnum : Box.num zs = some (Box.val zs) := by rw [Box.num,if_pos (by rw [hn.out]; exact ⟨h1,h8,hs⟩)]
    have HN := hid hnum
    have hq : ((Box.size (Box.val zs) : Int) != (n : Int)) = false := by rw [hs]; simp
    clear hnum hs
    go_wp2_with (go_at_call 160; refine (numberSize_any _ _ hb.1 hb.2).mono ?_; rintro e w' ⟨rfl,rfl⟩)
    go_ret2
    exact ⟨fun v h => by rw [HN.out] at h; simp only [Option.some.injEq] at h; rw [← h]; rfl,(fun h => by rw [HN.out] at h; simp at h),⟨_,rfl⟩⟩
   ·have hnum : Box.num zs = none := by rw [Box.num,if_neg (by rw [hn.out]; intro h; exact hs h.2.2)]
    have HN := hid hnum
    have hq : ((Box.size (Box.val zs) : Int) != (n : Int)) = true := by rw [bne_iff_ne]; omega
    clear hnum hs
    go_wp2_with (go_at_call 160; refine (numberSize_any _ _ hb.1 hb.2).mono ?_; rintro e w' ⟨rfl,rfl⟩)
    go_ret2
    exact ⟨fun v h => by rw [HN.out] at h; simp at h,fun _ => rfl,⟨_,rfl⟩⟩
  ·have hnum : Box.num zs = none := by rw [Box.num,if_neg (by rw [hn.out]; omega)]
   have HN := hid hnum
   have hn1 : ¬ ((n : Int) < 1) := by omega
   have hn8 : ((8 : Int) < (n : Int)) := by omega
   clear hnum hc
   go_enter Tryz.func122,Tryz.ntmps122
   go_wp2
   go_ret2
   exact ⟨fun v h => by rw [HN.out] at h; simp at h,fun _ => rfl,⟨0,rfl⟩⟩
 ·have hnum : Box.num zs = none := by rw [Box.num,if_neg (by rw [hn.out]; omega)]
  have HN := hid hnum
  have hn1 : ((n : Int) < 1) := by omega
  clear hnum hc
  go_enter Tryz.func122,Tryz.ntmps122
  go_wp2
  go_ret2
  exact ⟨fun v h => by rw [HN.out] at h; simp at h,fun _ => rfl,⟨0,rfl⟩⟩
end Go.Proofs.YtpijkgbafjccaaaGreatDoor
namespace Go.Proofs.YtpijkgbafjccaaaGreatDoor
open Go.RowKit
set_option maxRecDepth 100000
def Low (B : Nat) (w : World) (ao : Option Addr) (zs : List UInt8) : Prop := ∀ w',Below B w w' → At w' ao zs
theorem Low.here {B : Nat} {w : World} {ao : Option Addr} {zs : List UInt8} (h : Low B w ao zs) : At w ao zs := h w (Below.refl _ _)
theorem Low.on {B : Nat} {w w1 : World} {ao : Option Addr} {zs : List UInt8} (h : Low B w ao zs) (hb : Below B w w1) : Low B w1 ao zs := fun w' h' => h w' (hb.trans h')
theorem Low.part {B : Nat} {w : World} {ao a1 : Option Addr} {zs ys : List UInt8} (h : Low B w ao zs) (hp : ∀ w0,At w0 ao zs → At w0 a1 ys) : Low B w a1 ys := fun w' h' => hp w' (h w' h')
theorem At.low {w : World} {ao : Option Addr} {zs : List UInt8} (h : At w ao zs) : Low w.heap.size w ao zs := by
 intro w' hb j hj
 obtain ⟨b,off,h1,h2⟩ := h j hj
 exact ⟨b,off,h1,(hb.cell (p := ⟨b,off + j,.none⟩) (World.block_lt_of_cell? w _ h2)).trans h2⟩
theorem bel_row {B : Nat} {a b c : World} {row : Option Nat} (h : Below B a b) (k : b.grownBy c row) (hr : ∀ i,row = some i → B ≤ i) (hB : B ≤ b.heap.size) : Below B a c :=
 h.trans ⟨k.os,k.tape,k.output,k.size,fun i hi => k.block i (Nat.lt_of_lt_of_le hi hB) (by intro e; have := hr i e.symm; omega)⟩
theorem bel_alloc {B : Nat} {a b : World} (h : Below B a b) (hB : B ≤ b.heap.size) (o : Obj) : Below B a (b.alloc o) := bel_row h (World.grownBy_alloc b o none) (by simp) hB
theorem bel_drewN {B : Nat} {a b : World} (h : Below B a b) (n : Nat) : Below B a (b.drewN n) := h.trans ⟨rfl,rfl,rfl,Nat.le_refl _,fun _ _ => rfl⟩
theorem hex_take {zs : List UInt8} {k : Nat} (h : k < zs.length) : Box.hex (zs.take (k + 1)) = Box.hex (zs.take k) ++ [Box.dig (zs[k].toNat / 16),Box.dig (zs[k].toNat % 16)] := by
 rw [take_snoc h,Box.hex_append]; rfl
theorem dig_at (m : Nat) (h : m < 16) (h' : m < (⟨#[48,49,50,51,52,53,54,55,56,57,97,98,99,100,101,102]⟩ : ByteArray).size) : (⟨#[48,49,50,51,52,53,54,55,56,57,97,98,99,100,101,102]⟩ : ByteArray)[m] = Box.dig m := by
 have : ∀ m : Fin 16,(⟨#[48,49,50,51,52,53,54,55,56,57,97,98,99,100,101,102]⟩ : ByteArray)[m.val]'(m.isLt) = Box.dig m.val := by decide
 exact this ⟨m,h⟩
theorem and15 (z : UInt8) : bits .and .u8 (z.toNat : Int) 15 = ((z.toNat % 16 : Nat) : Int) := by
 have : ∀ z : Fin 256,bits .and .u8 (z.val : Int) 15 = ((z.val % 16 : Nat) : Int) := by decide +kernel
 exact this ⟨z.toNat,z.toNat_lt⟩
theorem digs_cells (z : UInt8) (a b : Nat) (ha : a = z.toNat / 16) (hb : b = z.toNat % 16) (h1 : a < (⟨#[48,49,50,51,52,53,54,55,56,57,97,98,99,100,101,102]⟩ : ByteArray).size) (h2 : b < (⟨#[48,49,50,51,52,53,54,55,56,57,97,98,99,100,101,102]⟩ : ByteArray).size) :
  (#[Value.int .u8 (((⟨#[48,49,50,51,52,53,54,55,56,57,97,98,99,100,101,102]⟩ : ByteArray)[a]).toNat : Int),Value.int .u8 (((⟨#[48,49,50,51,52,53,54,55,56,57,97,98,99,100,101,102]⟩ : ByteArray)[b]).toNat : Int)] : Array Value).toList = [Box.dig (z.toNat / 16),Box.dig (z.toNat % 16)].map U8 := by
 have := z.toNat_lt
 subst ha hb
 rw [dig_at _ (by omega),dig_at _ (by omega)]
 rfl
set_option maxHeartbeats 1000000 in
theorem showText_any (B : Nat) (sv : Value) (n0 : Nat) (bs zs : List UInt8) (n : Nat) (ao : Option Addr) (cap : Nat) (w : World) (hown : w.ownsRow B 5 1 sv n0 (bs.map U8)) (hB : B ≤ w.heap.size) (hn : Hid (zs.length = n)) (hlow : Low B w ao zs) (hb : n0 + (2 * n + 2) ≤ 140737488355328) :
  Calls Tryz.prog 80 #[sv,.slice ao n cap] w fun e w' => ∃ o,e = .returned o ∧ w'.ownsRow B 5 1 o (n0 + (2 * n + 2)) ((bs ++ (34 :: Box.hex zs ++ [34])).map U8) ∧ Below B w w' := by
 obtain ⟨i0,hif,hz0,hz1,hz2⟩ := info_parts Tryz.info5
 go_enter Tryz.func80,Tryz.ntmps80
 go_wp2_with (at_builtin; refine wpList_append_at _ rfl _ _ 26 rfl B 5 i0 Tryz.underlying26 hif hz0 hz1 hz2 _ _ _ rfl (hown.alloc _) (some ⟨w.heap.size,0,none⟩) 1 1 [34] rfl rfl ?c1 ?c2 ?c3 ?c4 ?_)
 case c1 => intro h; cases h
 case c2 => exact bytes_new w _ _ _ rfl
 case c3 => omega
 case c4 => simp; omega
 intro v1 w1 hown1 hg1 _
 have B1 : Below B w w1 := bel_row (bel_alloc (Below.refl _ _) hB _) hg1 (fun i hi => (hown.lt i hi).1) (by simp; omega)
 clear hown hg1
 go_wp2
 go_loopw [0,6,12] (fun o _ i wr => ∃ k : Nat,k ≤ n ∧ i = .int .i64 k ∧ wr.ownsRow B 5 1 o (n0 + 1 + 2 * k) ((bs ++ [34] ++ Box.hex (zs.take k)).map U8) ∧ Below B w wr) (fun _ _ i _ => n - (intOf i).toNat)
 case atStart => exact ⟨0,Nat.zero_le _,rfl,by simpa [Box.hex] using hown1,B1⟩
 case round =>
  obtain ⟨k,hk,rfl,hown,hbl⟩ := hrel
  have hBr := Nat.le_trans hB hbl.size
  by_cases hlt : k < n
  ·have hlt' : k < zs.length := by rw [hn.out]; exact hlt
   obtain ⟨b,off,rfl,hck⟩ := hlow wr hbl k hlt'
   have hz := (zs[k]).toNat_lt
   generalize hzk : zs[k] = z at *
   have q1 : (0 : Int) ≤ (z.toNat : Int) / 16 := by omega
   have q2 : (z.toNat : Int) / 16 < 16 := by omega
   have q3 : (0 : Int) ≤ bits .and .u8 (z.toNat : Int) 15 := by rw [and15]; omega
   have q4 : bits .and .u8 (z.toNat : Int) 15 < 16 := by rw [and15]; omega
   have hbd : n0 + 1 + 2 * k + 2 ≤ 140737488355328 := by omega
   go_wp2_with fail
   go_region_law (first | (refine step_append_at rfl _ _ 26 rfl B 5 i0 Tryz.underlying26 hif hz0 hz1 hz2 u0 (n0 + 1 + 2 * k) _ ?s1 (hown.alloc _) (some ⟨wr.heap.size,0,none⟩) 2 2 [Box.dig (z.toNat / 16),Box.dig (z.toNat % 16)] ?s2 rfl ?s3 ?s4 hbd ?s5 ?_; (case s1 => first | rfl | simp [Act.eval,Act.put]); (case s2 => first | rfl | simp [Act.eval,Act.put]); (case s3 => intro h; cases h); (case s4 => exact bytes_new wr _ _ _ (digs_cells z _ _ (by omega) (by rw [and15]; omega) _ _)); (case s5 => simp; omega); intro v' w6 hown8 hg8 hblk))
   all_goals
    have R : w6.ownsRow B 5 1 v' (n0 + 1 + 2 * (k + 1)) ((bs ++ [34] ++ Box.hex (zs.take (k + 1))).map U8) ∧ Below B w w6 := by
     refine ⟨?_,bel_row (bel_alloc hbl hBr _) (gb_undrew hg8) (fun i hi => (hown.lt i hi).1) (by simp; omega)⟩
     rw [hex_take hlt',hzk,← List.append_assoc]
     exact hown8
    clear hown8 hg8 hblk hown hbl hck hzk
    go_wp2
    go_roundw
    case rel => exact ⟨k + 1,by omega,by go_num,R.1,R.2⟩
    case measure => simp [intOf]; omega
  ·have hkn : k = n := by omega
   subst hkn
   go_wp2_with (at_builtin; refine wpList_append_at _ rfl _ _ 26 rfl B 5 i0 Tryz.underlying26 hif hz0 hz1 hz2 _ _ _ rfl (hown.alloc _) (some ⟨wr.heap.size,0,none⟩) 1 1 [34] rfl rfl ?c1 ?c2 ?c3 ?c4 ?_)
   case c1 => intro h; cases h
   case c2 => exact bytes_new wr _ _ _ rfl
   case c3 => omega
   case c4 => simp; omega
   intro v2 w2 hown2 hg2 _
   have B2 : Below B w w2 := bel_row (bel_alloc hbl hBr _) hg2 (fun i hi => (hown.lt i hi).1) (by simp; omega)
   have R : w2.ownsRow B 5 1 v2 (n0 + (2 * k + 2)) ((bs ++ (34 :: Box.hex zs ++ [34])).map U8) := by
    rw [List.take_of_length_le (by rw [hn.out]; omega)] at hown2
    rw [show n0 + (2 * k + 2) = n0 + 1 + 2 * k + 1 from by omega]
    simpa using hown2
   clear hown hown2 hg2 hbl
   go_wp2
   go_ret
   exact ⟨_,rfl,R,B2⟩
abbrev Tab (B : Nat) (w : World) : Prop := Lib.TabBelow Tryz.prog B w tabName .u64 Lib.pow10Tab
theorem byteCells_map (l : List UInt8) : Lib.byteCells l = l.map U8 := by
 simp [Lib.byteCells,U8]
theorem num_bounds {l : List UInt8} {v : Int} (h : Box.num l = some v) : -9223372036854775808 ≤ v ∧ v ≤ 9223372036854775807 := by
 unfold Box.num at h
 split at h
 ·rename_i hc
  simp only [Option.some.injEq] at h
  rw [← h]
  exact Box.val_bounds hc.1 hc.2.1
 ·simp at h
theorem appendInt_map (B n : Nat) (i : Int) (h0 : -9223372036854775808 ≤ i) (h1 : i ≤ 9223372036854775807) (sv : Value) (bs : List UInt8) (w : World) (hown : w.ownsRow B 5 1 sv n (bs.map U8)) (hB : B ≤ w.heap.size) (hlim : n + 21 ≤ 140737488355328) (htab : Tab B w) :
  Calls Tryz.prog 123 #[sv,.int .i64 i,.int .i64 10] w fun e w' => ∃ o,e = .returned o ∧ w'.ownsRow B 5 1 o (n + (Lib.itoa i).length) ((bs ++ Lib.itoa i).map U8) ∧ Below B w w' :=
 (Go.Proofs.Tryz.strconv_AppendInt_10 B n i h0 h1 sv _ w hown hB hlim htab).mono fun e w' ⟨v',he,ho,hb,_⟩ => ⟨v',he,by rw [List.map_append,← byteCells_map]; exact ho,hb⟩
set_option maxHeartbeats 1000000 in
theorem showNumber_any (B : Nat) (sv : Value) (n0 : Nat) (bs zs : List UInt8) (n : Nat) (ao : Option Addr) (cap : Nat) (w : World) (hown : w.ownsRow B 5 1 sv n0 (bs.map U8)) (hB : B ≤ w.heap.size) (hn : Hid (zs.length = n)) (hl : n ≤ 140737488355328) (hcap : n ≤ cap) (hat : At w ao zs) (hb : n0 + 21 ≤ 140737488355328) (htab : Tab B w) :
  Calls Tryz.prog 79 #[sv,.slice ao n cap] w fun e w' =>
   (∀ v,Box.num zs = some v → ∃ o,e = .returned (.tuple #[o,.bool true]) ∧ w'.ownsRow B 5 1 o (n0 + (Lib.itoa v).length) ((bs ++ Lib.itoa v).map U8)) ∧
   (Box.num zs = none → ∃ o,e = .returned (.tuple #[o,.bool false])) ∧ Below B w w' := by
 have hrd := readNumber_any zs n ao cap w hn hl hcap hat
 cases hnum : Box.num zs with
 | none =>
  rw [hnum] at hrd
  clear hnum hat
  go_enter Tryz.func79,Tryz.ntmps79
  go_wp2_with fail
  refine hrd.mono ?_
  rintro e w1 ⟨_,h2,m,rfl⟩
  obtain rfl := h2 trivial
  clear hrd h2
  go_wp2_with fail
  refine (appendInt_map B n0 0 (by omega) (by omega) sv bs (w.drewN m) hown hB hb (htab.on (bel_drewN (Below.refl _ _) m))).mono ?_
  rintro e w2 ⟨o,rfl,ho,hb2⟩
  go_wp2
  go_ret2
  exact ⟨fun v h => by simp at h,fun _ => ⟨_,rfl⟩,(bel_drewN (Below.refl _ _) m).trans hb2⟩
 | some v =>
  have hvb := num_bounds hnum
  rw [hnum] at hrd
  clear hnum hat
  go_enter Tryz.func79,Tryz.ntmps79
  go_wp2_with fail
  refine hrd.mono ?_
  rintro e w1 ⟨h1,_,m,rfl⟩
  obtain rfl := h1 v rfl
  clear hrd h1
  go_wp2_with fail
  refine (appendInt_map B n0 v hvb.1 hvb.2 sv bs (w.drewN m) hown hB hb (htab.on (bel_drewN (Below.refl _ _) m))).mono ?_
  rintro e w2 ⟨o,rfl,ho,hb2⟩
  go_wp2
  go_ret2
  refine ⟨fun v' h => ?_,(fun h => by simp at h),(bel_drewN (Below.refl _ _) m).trans hb2⟩
  simp only [Option.some.injEq] at h
  subst h
  exact ⟨_,rfl,ho⟩
end Go.Proofs.YtpijkgbafjccaaaGreatDoor
