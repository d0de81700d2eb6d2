/-
  Contracts of hashHead and appendVeiled: the head that all hashes of one seal share; bytes changed each by its place, put behind others. Conditions: room in the block that is written, which the bytes that are read do not share.
-/
import Derived.Test.YtlocllbiojabaaaGreatDoorLeaf
namespace Go.Proofs.YtlocllbiojabaaaGreatDoor
open Go.RowKit
set_option maxRecDepth 100000

set_option maxHeartbeats 400000 in
theorem hashHead_any (key use draw : UInt64) (x : Int) (w : World) (hx : x = use.toNat) (hv : use.toNat < 9223372036854775808) :
    Calls Tryz.prog 81 #[.int .u64 (key.toNat : Int), .int .i64 x, .int .u64 (draw.toNat : Int)] w fun e w' => e = .returned (.int .u64 ((Pure.head key use draw).toNat : Int)) ∧ w.grownBy w' none := by
  subst hx
  go_enter Tryz.func81, Tryz.ntmps81
  go_wp2_with fail
  refine (append64_any w.heap.size 17 [] key 8 0 _ (Buf.new w _ _ 17 rfl (by decide)) rfl (by omega) (by simp)).mono ?_
  rintro e w1 ⟨rfl, hb1, hg1⟩
  go_wp2_with fail
  refine (appendInt_any w.heap.size 17 _ use 1 8 _ hb1 (by simp [Pure.be_length]) (by omega) (by simp [Pure.be_length]) _ rfl hv).mono ?_
  rintro e w2 ⟨rfl, hb2, hg2⟩
  go_wp2_with fail
  refine (append64_any w.heap.size 17 _ draw 8 9 _ hb2 (by simp [Pure.be_length]) (by omega) (by simp [Pure.be_length])).mono ?_
  rintro e w3 ⟨rfl, hb3, hg3⟩
  go_wp2_with fail
  have h17 : 17 = (Pure.headB key use draw).length := by simp [Pure.headB, Pure.be_length]
  have hat : At w3 (some ⟨w.heap.size, 0, none⟩) (Pure.headB key use draw) := by
    have := hb3.at
    simpa [Pure.headB] using this
  have G : w.grownBy w3 none := gb_new (gb_new (gb_new (World.grownBy_alloc w _ none) hg1 (Nat.le_refl _)) hg2 (Nat.le_refl _)) hg3 (Nat.le_refl _)
  have C := hash_any (Pure.headB key use draw) (some ⟨w.heap.size, 0, none⟩) 17 w3 (by rw [← h17]; omega) hat
  rw [← h17] at C
  clear hb1 hb2 hb3 hg1 hg2 hg3 hat h17
  refine C.mono ?_
  rintro e w4 ⟨rfl, rfl⟩
  go_wp2
  go_ret
  exact ⟨rfl, G⟩

set_option maxHeartbeats 400000 in
theorem veil_any (g cap n : Nat) (bs : List UInt8) (head : UInt64) (zs : List UInt8) (ao : Option Addr) (ci : Nat) (w : World) (hb : Buf w g cap bs) (hn : n = bs.length) (hz : At w ao zs)
    (hne : ∀ b off, ao = some ⟨b, off, none⟩ → zs ≠ [] → b ≠ g) (hl : zs.length ≤ 140737488355328) (hr : bs.length + zs.length ≤ cap) :
    Calls Tryz.prog 83 #[.slice (some ⟨g, 0, none⟩) n cap, .int .u64 (head.toNat : Int), .slice ao zs.length ci] w fun e w' => e = .returned (.slice (some ⟨g, 0, none⟩) (n + zs.length) cap) ∧ Buf w' g cap (bs ++ Pure.veil head zs) ∧ w.grownBy w' (some g) := by
  subst hn
  obtain ⟨i0, hi, hz0, hz1, hz2⟩ := info_parts Tryz.info5
  go_enter Tryz.func83, Tryz.ntmps83
  go_wp2
  go_loopw [0, 8, 9, 10, 13] (fun o _ _ _ i wr => ∃ k : Nat, k ≤ zs.length ∧ i = .int .i64 k ∧ o = .slice (some ⟨g, 0, none⟩) (bs.length + k) cap ∧ Buf wr g cap (bs ++ Pure.veil head (zs.take k)) ∧ Buf wr w.heap.size 2 [] ∧ w.grownBy wr (some g)) (fun _ _ _ _ i _ => zs.length - (intOf i).toNat)
  case atStart => exact ⟨0, Nat.zero_le _, rfl, rfl, by simpa [Pure.veil] using hb.alloc _, Buf.new w _ _ 2 rfl (by decide), World.grownBy_alloc _ _ _⟩
  case round =>
    obtain ⟨k, hk, rfl, rfl, hbr, hrr, hgr⟩ := hrel
    have hgw := hb.lt
    by_cases hlt : k < zs.length
    · obtain ⟨b, off, rfl, hck0⟩ := hz k hlt
      have hbg : b ≠ g := hne b off rfl (by intro e; subst e; simp at hlt)
      have hck : wr.cell? ⟨b, off + k, none⟩ = some (.int .u8 (zs[k].toNat : Int)) := hgr.cell hck0 (by simpa using hbg)
      clear hne hz hck0
      have e1 : (UInt64.ofNat k).toNat = k := Pure.ofNat_small k (by omega)
      have X : Hid ((k : Int) = (((UInt64.ofNat k).toNat : Nat) : Int)) := by rw [e1]; exact rfl
      have Y : (UInt64.ofNat k).toNat < 9223372036854775808 := by rw [e1]; omega
      clear e1
      go_wp2_with fail
      refine (appendInt_any w.heap.size 2 [] (UInt64.ofNat k) 2 0 _ hrr rfl (by omega) (by simp) _ X.out Y).mono ?_
      rintro e w1 ⟨rfl, hb1, hg1⟩
      have hbr1 := hbr.grown hg1 (by simp; omega)
      have G1 : w.grownBy w1 (some g) := gb_new hgr hg1 (Nat.le_refl _)
      clear hbr hrr hgr hck hg1
      go_wp2_with fail
      refine (hashOn_any head (Pure.be (UInt64.ofNat k) 2) (some ⟨w.heap.size, 0, none⟩) 2 w1 (by rw [Pure.be_length]; omega) (by simpa using hb1.at)).mono ?_
      rintro e w2 ⟨rfl, rfl⟩
      go_wp2_with (at_builtin; refine wpList_append_buf _ rfl _ _ 37 rfl 5 i0 Tryz.underlying37 hi hz1 g _ cap (bs ++ Pure.veil head (zs.take k)) [zs[k] ^^^ Pure.mask head k] rfl (hbr1.alloc _) ?c1 ⟨w1.heap.size, 0, none⟩ 1 1 rfl rfl ?c2 ?c3 ?_)
      case c1 => simp [Pure.veil_length]; omega
      case c2 => exact one_new' _ _ _ _ (mask_int _ _)
      case c3 => simp [Pure.veil_length]; omega
      · intro w3 hb3 hg3
        have R : Buf w3 g cap (bs ++ Pure.veil head (zs.take (k + 1))) ∧ Buf w3 w.heap.size 2 [] ∧ w.grownBy w3 (some g) :=
          ⟨by rw [Pure.veil_take head zs k hlt]; simpa only [List.append_assoc] using hb3, (hb1.empty.alloc _).grown hg3 (by simp; omega), gb_trans (gb_alloc G1 _) hg3⟩
        clear hb1 hbr1 G1 hb3 hg3 hb
        go_wp2
        go_roundw
        case rel => exact ⟨k + 1, by omega, by go_num, rfl, R.1, R.2.1, R.2.2⟩
        case measure => simp [intOf]; omega
    · have hks : k = zs.length := by omega
      subst hks
      clear hz hne
      go_wp2
      go_ret
      exact ⟨rfl, by simpa using hbr, hgr⟩

end Go.Proofs.YtlocllbiojabaaaGreatDoor
