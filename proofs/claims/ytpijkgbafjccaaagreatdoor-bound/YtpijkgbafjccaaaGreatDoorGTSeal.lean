/-
  
  
  
-/
import Derived.Test.YtpijkgbafjccaaaGreatDoorGTHead
import Derived.Test.YtpijkgbafjccaaaGreatDoorGTIns
import Derived.Test.YtpijkgbafjccaaaGreatDoorGTBase
import Derived.Deep.RegionWith
import Derived.Deep.QuietTactic
import Derived.BigQuiet
namespace Go.Proofs.YtpijkgbafjccaaaGreatDoor
open Go.RowKit
set_option maxRecDepth 100000
theorem hashOn_any' (h : UInt64) (zs : List UInt8) (ao : Option Addr) (cap n : Nat) (w : World) (hn : Hid (zs.length = n)) (hl : n ≤ 140737488355328) (hc : At w ao zs) :
  Calls Tryz.prog 115 #[.int .u64 (h.toNat : Int),.slice ao n cap] w fun e w' => e = .returned (.int .u64 ((Pure.hashL h zs).toNat : Int)) ∧ w = w' := by
 obtain rfl := hn.out
 exact hashOn_any h zs ao cap w hl hc
set_option maxHeartbeats 1000000 in
theorem append64_out (ov : Value) (p : Option Pl) (bs : List UInt8) (v : UInt64) (size : Nat) (w : World) (hb : Out w ov p bs) (hs : size ≤ 8) (hl : bs.length ≤ 1000000) :
  Calls Tryz.prog 154 #[ov,.int .u64 (v.toNat : Int),.int .i64 size] w fun e w' => ∃ v',e = .returned v' ∧ OutMore w w' v' p (bs ++ Pure.be v size) := by
 obtain ⟨i0,hi,hz0,hz1,hz2⟩ := info_parts Tryz.info5
 go_enter Tryz.func154,Tryz.ntmps154
 go_wp2
 go_loopw [0,8] (fun o i wr => ∃ k : Nat,k ≤ size ∧ i = .int .i64 ((size : Int) - 1 - k) ∧ OutMore w wr o p (bs ++ Pure.beTo v size k)) (fun _ i _ => (intOf i + 1).toNat)
 case atStart => exact ⟨0,Nat.zero_le _,by go_num,by simpa [Pure.beTo_zero] using OutMore.refl hb⟩
 case round =>
  obtain ⟨k,hk,rfl,hbr⟩ := hrel
  by_cases hlt : k < size
  ·obtain ⟨p1,ho1,hcomp⟩ := hbr
   have HC := hid hcomp
   clear hcomp
   have hsrc : ∀ x,x = ((Pure.byteAt v (size - 1 - k)).toNat : Int) → Src Tryz.prog 1 26 (.slice (some ⟨wr.heap.size,0,none⟩) 1 1) 1 ([Pure.byteAt v (size - 1 - k)].map U8) (wr.alloc (.cells #[.int .u8 x] 5)) := by
    intro x hx
    refine src_at (P := Tryz.prog) Tryz.underlying26 _ 1 1 [Pure.byteAt v (size - 1 - k)] rfl ?_
    exact bytes_new _ _ _ _ (by rw [hx]; rfl)
   go_wp2_with (at_builtin; refine wpList_append_out _ rfl _ _ 26 26 rfl 5 i0 Tryz.underlying26 hi hz0 hz1 hz2 _ _ p1 _ [Pure.byteAt v (size - 1 - k)] rfl rfl (ho1.grown (World.grownBy_alloc _ _ _)) 1 (hsrc _ ?c1) ?c2 ?_)
   case c1 => exact byteAt_int v _
   case c2 => simp [Pure.beTo_length]; omega
   ·intro v1 w1 R1
    have R := OutMore.comp HC.out (R1.before (World.grownBy_alloc _ _ _)) (by simp)
    have R2 : OutMore w w1 v1 p (bs ++ Pure.beTo v size (k + 1)) := by rw [Pure.beTo_succ]; simpa only [List.append_assoc] using R
    clear R R1 ho1 hb HC
    go_wp2
    go_roundw
    case rel => exact ⟨k + 1,by omega,by go_num,R2⟩
    case measure => simp [intOf]; omega
  ·have hks : k = size := by omega
   subst hks
   go_wp2
   go_ret
   exact ⟨_,rfl,hbr⟩
theorem Out.buf {w : World} {g cap : Nat} {bs : List UInt8} (h : Buf w g cap bs) : Live w g cap ∧ w.rangeAt g 0 (bs.map U8) := by
 have h0 := h
 obtain ⟨cur,e,h1,h2,_⟩ := h
 exact ⟨⟨cur,e,h1,by omega⟩,At.range h0.at⟩
theorem veil_part (head : UInt64) (ao : Option Addr) (p : Option Pl) (A zs : List UInt8) (fr n cap : Nat) (w : World) (hv : Out w (.slice ao n cap) p (A ++ zs)) (hA : Hid (A.length = fr)) (hN : Hid ((A ++ zs).length = n)) (hl : n ≤ 900000) :
  Calls Tryz.prog 114 #[.slice (sl ao cap fr) (n - fr) (cap - fr),.int .u64 (head.toNat : Int)] w fun e w' => e = .returned (.tuple #[]) ∧ Out w' (.slice ao n cap) p (A ++ Pure.veil head zs) ∧ CF w w' (Pl.has p) := by
 have hlen : (A ++ zs).length = A.length + zs.length := List.length_append
 rw [hA.out,hN.out] at hlen
 by_cases hz : zs = []
 ·subst hz
  rw [List.length_nil] at hlen
  rw [show n - fr = 0 from by omega]
  refine (veil_none _ _ head w).mono ?_
  rintro e w' ⟨rfl,g⟩
  refine ⟨rfl,?_,CF.of_gb g _⟩
  have := hv.grown g
  simpa [Pure.veil] using this
 ·have hzp := List.length_pos_iff.2 hz
  rcases hv with ⟨_,_,h⟩ | ⟨q,hp,hvv,h1,h2,h3,h4⟩
  ·rw [List.append_eq_nil_iff] at h; exact absurd h.2 hz
  ·injection hvv with e1 e2 e3
   subst e1 e3
   have hs : sl (some ⟨q.g,q.off,none⟩) q.cap fr = some ⟨q.g,q.off + fr,none⟩ := by
    rw [sl,if_neg (by have := hN.out; omega)]
    simp [Addr.add_lit]
   have h4b : q.off + fr + (n - fr) ≤ q.off + q.cap := by have := hN.out; omega
   have hrz : w.rangeAt q.g (q.off + fr) (zs.map U8) := by
    have := range_right (cs := A.map U8) (ds := zs.map U8) (by rw [← List.map_append]; exact h4)
    rw [List.length_map,hA.out] at this
    exact this
   have hrA : w.rangeAt q.g q.off (A.map U8) := range_left (ds := zs.map U8) (by rw [← List.map_append]; exact h4)
   rw [hs]
   refine (veil_in q.g (q.off + fr) (q.cap - fr) (n - fr) head zs w (h3.mono h4b) (hid (by omega)) (by omega) hrz).mono ?_
   rintro e w' ⟨rfl,r1,r2⟩
   have r3 : CF w w' (Pl.has p) := r2.mono (fun b o _ e => ⟨q,hp,e.1,by omega,by have := e.2; have := hN.out; omega⟩)
   refine ⟨rfl,.inr ⟨q,hp,?_,?_,h2,h3.cf r3,?_⟩,r3⟩
   ·rw [e2]; simp [Pure.veil_length]
   ·have := h1; rw [List.length_append] at this ⊢; rw [Pure.veil_length]; exact this
   ·rw [List.map_append]
    refine range_append (r2.range hrA (fun j hj e => ?_)) (by rw [List.length_map,hA.out]; exact r1)
    rw [List.length_map,hA.out] at hj
    omega
set_option maxHeartbeats 2000000 in
theorem wrap_any (key use draw : UInt64) (x : Int) (ov : Value) (p : Option Pl) (A zs : List UInt8) (fr : Nat) (ii : Int) (w : World) (hv : Out w ov p (A ++ zs)) (hA : Hid (A.length = fr)) (hii : ii = fr) (hu : Hid (x = use.toNat)) (hux : use.toNat < 9223372036854775808) (hl : (A ++ zs).length ≤ 900000) :
  Calls Tryz.prog 194 #[ov,.int .i64 ii,.int .u64 (key.toNat : Int),.int .i64 x,.int .u64 (draw.toNat : Int)] w fun e w' => ∃ v',e = .returned v' ∧ OutMore w w' v' p (A ++ Pure.sealL key use draw zs) := by
 subst hii
 obtain ⟨i0,hi,hz0,hz1,hz2⟩ := info_parts Tryz.info5
 obtain ⟨n,hn⟩ : ∃ n,(A ++ zs).length = n := ⟨_,rfl⟩
 have HN := hid hn
 have hzl : zs.length = n - fr := by have := hA.out; rw [List.length_append] at hn; omega
 have HZ := hid hzl
 have hfn : fr ≤ n := by have := hA.out; rw [List.length_append] at hn; omega
 rw [hn] at hl
 clear hn hzl
 obtain ⟨ao,cap,hvv,hc1,hc2,hat,hnc⟩ := hv.open HN
 subst hvv
 have hsl := slice_from_sl (P := Tryz.prog) 26 5 i0 Tryz.underlying26 hi hz1 ao n cap fr hfn
 have hpart : ∀ w,At w ao (A ++ zs) → At w (sl ao cap fr) zs := fun w h => by
  have := h.part cap fr (by rw [HN.out]; exact hc1)
  rw [show (A ++ zs).drop fr = zs from by rw [← hA.out]; simp] at this
  exact this
 clear hi hz0 hz1 hz2
 go_enter Tryz.func194,Tryz.ntmps194
 go_wp2_with fail
 refine (hashHead_any key use draw x w hu.out hux).mono ?_
 rintro e w1 ⟨rfl,hg1⟩
 have hv1 := hv.grown hg1
 have hat1 := hpart w1 (hat.below hg1)
 clear hat hpart hv
 go_wp2_with fail
 refine (hashOn_any' (Pure.head key use draw) zs _ _ (n - fr) w1 HZ (by omega) hat1).mono ?_
 rintro e w2 ⟨rfl,rfl⟩
 go_wp2_with fail
 refine (veil_part (Pure.head key use draw) ao p A zs fr n cap w1 hv1 hA HN hl).mono ?_
 rintro e w3 ⟨rfl,hv3,F3⟩
 have G3 : CF w w3 (Pl.has p) := CF.before hg1 F3
 clear hat1 hv1 F3 hsl
 go_wp2_with fail
 refine (append64_any w3.heap.size 8 [] draw 8 0 _ (Buf.new w3 _ _ 8 rfl (by decide)) rfl (by omega) (by simp)).mono ?_
 rintro e w4 ⟨rfl,hb4,hg4⟩
 have G4 : w3.grownBy w4 none := gb_new (World.grownBy_alloc w3 _ none) hg4 (Nat.le_refl _)
 have hv4 := hv3.grown G4
 obtain ⟨hL4,hr4⟩ := Out.buf hb4
 have hlt4 := hv3.ltg
 have HLT := hid (fun (q : Pl) (hq : p = some q) => (Nat.ne_of_lt (hlt4 q hq)).symm)
 have HL2 := hid (show (A ++ Pure.veil (Pure.head key use draw) zs).length + 8 ≤ 1000000 from by have := HN.out; rw [List.length_append] at this ⊢; rw [Pure.veil_length]; omega)
 clear hb4 hg4 hlt4 hv3
 go_wp2_with fail
 refine (insert_out _ p A (Pure.veil (Pure.head key use draw) zs) (Pure.be draw 8) fr _ w3.heap.size 0 8 8 w4 hv4 hA rfl (hid (Pure.be_length _ _)) (by omega) hL4 (by simpa using hr4) HLT.out HL2.out).mono ?_
 rintro e w5 ⟨v5,rfl,R5⟩
 have R5' := R5
 obtain ⟨p5,ho5,hc5⟩ := R5'
 have HC := hid hc5
 have HL5 := hid (show (A ++ Pure.be draw 8 ++ Pure.veil (Pure.head key use draw) zs).length ≤ 1000000 from by have := HL2.out; simp only [List.length_append] at this ⊢; rw [Pure.be_length]; omega)
 clear hv4 hL4 hr4 hc5 R5 HLT
 go_wp2_with fail
 refine (append64_out v5 p5 _ (Pure.hashL (Pure.head key use draw) zs) 8 w5 ho5 (by omega) HL5.out).mono ?_
 rintro e w6 ⟨v6,rfl,R6⟩
 have R := (OutMore.comp HC.out R6 (by simp)).from (G3.grown G4)
 clear R6 ho5 HC G3 G4
 go_wp2
 go_ret
 exact ⟨v6,rfl,by simpa [Pure.sealL,List.append_assoc] using R⟩
theorem hashOn_n (h : UInt64) (zs : List UInt8) (n : Nat) (ao : Option Addr) (cap : Nat) (w : World) (hn : zs.length = n) (hl : n ≤ 140737488355328) (hc : At w ao zs) :
  Calls Tryz.prog 115 #[.int .u64 (h.toNat : Int),.slice ao n cap] w fun e w' => e = .returned (.int .u64 ((Pure.hashL h zs).toNat : Int)) ∧ w = w' := by
 subst hn
 exact hashOn_any h zs ao cap w hl hc
theorem join_n (h : UInt64) (zs : List UInt8) (n : Nat) (ao : Option Addr) (cap : Nat) (w : World) (hn : zs.length = n) (hl : n ≤ 140737488355328) (hc : At w ao zs) :
  Calls Tryz.prog 113 #[.int .u64 (h.toNat : Int),.slice ao n cap] w fun e w' => e = .returned (.int .u64 ((Pure.joinL h zs).toNat : Int)) ∧ w = w' := by
 subst hn
 exact join_any h zs ao cap w hl hc
theorem hashOn_q (h : UInt64) (zs : List UInt8) (n : Nat) (ao : Option Addr) (cap : Nat) (w : World) (nq : Nat) (hn : Hid (zs.length = n)) (hl : n ≤ 140737488355328) (hc : At w ao zs) :
  Calls Tryz.prog 115 #[.int .u64 (h.toNat : Int),.slice ao n cap] (w.drewN nq) fun e w'' => e = .returned (.int .u64 ((Pure.hashL h zs).toNat : Int)) ∧ ∃ m,w'' = w.drewN m :=
 (hashOn_n h zs n ao cap _ hn hl (hc.drewN nq)).mono fun _ _ ⟨h1,h2⟩ => ⟨h1,nq,h2.symm⟩
theorem join_q (h : UInt64) (zs : List UInt8) (n : Nat) (ao : Option Addr) (cap : Nat) (w : World) (nq : Nat) (hn : Hid (zs.length = n)) (hl : n ≤ 140737488355328) (hc : At w ao zs) :
  Calls Tryz.prog 113 #[.int .u64 (h.toNat : Int),.slice ao n cap] (w.drewN nq) fun e w'' => e = .returned (.int .u64 ((Pure.joinL h zs).toNat : Int)) ∧ ∃ m,w'' = w.drewN m :=
 (join_n h zs n ao cap _ hn hl (hc.drewN nq)).mono fun _ _ ⟨h1,h2⟩ => ⟨h1,nq,h2.symm⟩
end Go.Proofs.YtpijkgbafjccaaaGreatDoor
namespace Go.Proofs.YtpijkgbafjccaaaGreatDoor
open Go.RowKit
set_option maxRecDepth 100000
theorem Out.empty {w : World} {ao : Option Addr} {n cap : Nat} {p : Option Pl} {bs : List UInt8} (h : Out w (.slice ao n cap) p bs) : Out w (.slice ao 0 cap) p [] := by
 rcases h with ⟨h1,h2,_⟩ | ⟨q,h1,h2,h3,h4,h5,_⟩
 ·injection h2 with e1 e2 e3; subst e1 e3; exact .inl ⟨h1,rfl,rfl⟩
 ·injection h2 with e1 e2 e3; subst e1 e3; exact .inr ⟨q,h1,rfl,Nat.zero_le _,h4,h5,fun j u hu => by simp at hu⟩
theorem veil_whole (head : UInt64) (ao : Option Addr) (p : Option Pl) (zs : List UInt8) (n cap : Nat) (w : World) (hv : Out w (.slice ao n cap) p zs) (hN : Hid (zs.length = n)) (hl : n ≤ 900000) :
  Calls Tryz.prog 114 #[.slice ao n cap,.int .u64 (head.toNat : Int)] w fun e w' => e = .returned (.tuple #[]) ∧ Out w' (.slice ao n cap) p (Pure.veil head zs) ∧ CF w w' (Pl.has p) := by
 rcases hv with ⟨hp,hvv,h⟩ | ⟨q,hp,hvv,h1,h2,h3,h4⟩
 ·injection hvv with e1 e2 e3
  subst e1 e2 e3 h
  refine (veil_none _ _ head w).mono ?_
  rintro e w' ⟨rfl,g⟩
  exact ⟨rfl,.inl ⟨hp,rfl,rfl⟩,CF.of_gb g _⟩
 ·injection hvv with e1 e2 e3
  subst e1 e3
  refine (veil_in q.g q.off q.cap n head zs w (h3.mono (by omega)) hN (by omega) h4).mono ?_
  rintro e w' ⟨rfl,r1,r2⟩
  have r3 : CF w w' (Pl.has p) := r2.mono (fun b o _ e => ⟨q,hp,e.1,e.2.1,by have := e.2.2; omega⟩)
  exact ⟨rfl,.inr ⟨q,hp,by rw [Pure.veil_length,← e2],by rw [Pure.veil_length]; exact h1,h2,h3.cf r3,r1⟩,r3⟩
set_option maxHeartbeats 400000 in
theorem open_use (rv : Value) (key x : Int) (v : Value) (w : World) (hx : isU x = false) :
  Calls Tryz.prog 72 #[rv,.int .u64 key,.int .i64 x,v] w fun e w' => e = .returned (.tuple #[.slice none 0 0,.int .i64 1]) ∧ w = w' := by
 go_enter Tryz.func72,Tryz.ntmps72
 go_wp2_with (go_at_call 111; refine (isUse_any _ _).mono ?_; rintro e w' ⟨rfl,rfl⟩)
 go_ret2
 exact ⟨rfl,rfl⟩
set_option maxHeartbeats 400000 in
theorem open_size (rv : Value) (key x : Int) (ao : Option Addr) (n cap : Nat) (w : World) (hx : isU x = true) (hn : n < 16 ∨ 216 < n) :
  Calls Tryz.prog 72 #[rv,.int .u64 key,.int .i64 x,.slice ao n cap] w fun e w' => e = .returned (.tuple #[.slice none 0 0,.int .i64 3]) ∧ w = w' := by
 rcases hn with hn | hn
 ·go_enter Tryz.func72,Tryz.ntmps72
  go_wp2_with (go_at_call 111; refine (isUse_any _ _).mono ?_; rintro e w' ⟨rfl,rfl⟩)
  go_ret2
  exact ⟨rfl,rfl⟩
 ·have h16 : ¬ n < 16 := by omega
  go_enter Tryz.func72,Tryz.ntmps72
  go_wp2_with (go_at_call 111; refine (isUse_any _ _).mono ?_; rintro e w' ⟨rfl,rfl⟩)
  go_ret2
  exact ⟨rfl,rfl⟩
set_option maxHeartbeats 1000000 in
theorem open_any (rv : Value) (p : Option Pl) (rb : List UInt8) (key use : UInt64) (x : Int) (ao : Option Addr) (zs : List UInt8) (L cap : Nat) (w : World) (hR : Out w rv p rb) (hx : isU x = true) (hu : Hid (x = use.toNat)) (hL : Hid (zs.length = L)) (h16 : 16 ≤ L) (h216 : L ≤ 216) (hcap : L ≤ cap) (hz : At w ao zs)
  (hsep : ∀ b off,ao = some ⟨b,off,none⟩ → ∀ j,j < zs.length → ¬ Pl.has p b (off + j)) :
  Calls Tryz.prog 72 #[rv,.int .u64 (key.toNat : Int),.int .i64 x,.slice ao L cap] w fun e w' =>
   (Pure.opens key use zs = true → ∃ v',e = .returned (.tuple #[v',.int .i64 0]) ∧ OutMore w w' v' p (Pure.plainOf key use zs)) ∧
   (Pure.opens key use zs = false → e = .returned (.tuple #[.slice none 0 0,.int .i64 3]) ∧ CF w w' (Pl.has p)) := by
 obtain ⟨i0,hi,hz0,hz1,hz2⟩ := info_parts Tryz.info5
 obtain ⟨ra,rcap,hrv,hr1,hr2,_,_⟩ := hR.open (hid rfl)
 have hR0 : Out w (.slice ra 0 rcap) p [] := by rw [hrv] at hR; exact hR.empty
 obtain ⟨rn,hrn⟩ : ∃ rn,rb.length = rn := ⟨_,rfl⟩
 rw [hrn] at hrv hr1
 subst hrv
 clear hrn hR
 have hv : use.toNat < 9223372036854775808 := by have := hu.out; simp [isU] at hx; omega
 have n16 : ¬ L < 16 := by omega
 have hs0 := slice_head (P := Tryz.prog) 26 5 i0 Tryz.underlying26 hi hz1 ra rn rcap 0 (Nat.zero_le _)
 obtain ⟨a1,hs1,hat1⟩ := slice_to (P := Tryz.prog) 26 5 i0 Tryz.underlying26 hi hz1 ao L cap hL hcap 8 (8 : Int) rfl (by omega)
 obtain ⟨a2,hs2,hat2⟩ := slice_lh (P := Tryz.prog) 26 5 i0 Tryz.underlying26 hi hz1 ao L cap hL hcap 8 (L - 8) (8 : Int) ((L : Int) - 8) rfl (by omega) (by omega) (by omega)
 obtain ⟨a3,hs3,hat3⟩ := slice_from (P := Tryz.prog) 26 5 i0 Tryz.underlying26 hi hz1 ao L cap hL hcap (L - 8) ((L : Int) - 8) (by omega) (by omega)
 rw [show L - (L - 8) = 8 from by omega] at hs3
 have HSEP := hid hsep
 clear hsep
 go_enter Tryz.func72,Tryz.ntmps72
 go_wp2_with (go_at_call 111; refine (isUse_any _ _).mono ?_; rintro e w' ⟨rfl,rfl⟩)
 refine (join_n 0 (zs.take 8) 8 _ _ _ (by rw [List.length_take,hL.out]; omega) (by omega) (hat1 _ hz)).mono ?_
 rintro e w' ⟨rfl,rfl⟩
 go_wp2_with fail
 refine (hashHead_any key use (Pure.drawOf zs) x _ hu.out hv).mono ?_
 rintro e w1 ⟨rfl,hg1⟩
 have hz1' := hz.below hg1
 have hR1 := hR0.grown hg1
 clear hs1 hat1 hR0
 go_wp2_with fail
 have hl2 : ((zs.drop 8).take (L - 8 - 8)).length = L - 8 - 8 := by have h := hL.out; simp; omega
 have HL2 := hid hl2
 have hsrc := src_at (P := Tryz.prog) (w := w1.drew) Tryz.underlying26 a2 (L - 8 - 8) (cap - 8) ((zs.drop 8).take (L - 8 - 8)) hl2 (hat2 _ hz1')
 have HB2 := hid (show ([] : List UInt8).length + ((zs.drop 8).take (L - 8 - 8)).length ≤ 140737488355328 from by rw [hl2]; simp; omega)
 clear hl2 hat2
 go_region_law (first | (refine step_append_out rfl _ _ 26 26 rfl 5 i0 Tryz.underlying26 hi hz0 hz1 hz2 (.slice ra 0 rcap) (.slice a2 (L - 8 - 8) (cap - 8)) p [] ((zs.drop 8).take (L - 8 - 8)) ?s1 ?s2 hR1.drew _ hsrc HB2.out ?_; (case s1 => first | rfl | simp [Act.eval,Act.put]); (case s2 => first | rfl | simp [Act.eval,Act.put]); intro v2 w2 R2))
 all_goals
  rw [List.nil_append] at R2
  obtain ⟨p2,ho2,hc2⟩ := R2
  obtain ⟨va,vc,hvv,hv1,hv2,_,_⟩ := ho2.open HL2
  subst hvv
  have HC2 := hid (show CF w1 w2 (Pl.has p) ∧ (p2 = p ∨ Pl.fresh w1.heap.size p2) ∧ ∀ q,p = some q → ((zs.drop 8).take (L - 8 - 8)).length ≤ q.cap → p2 = p from ⟨hc2.1.undrew,hc2.2⟩)
  clear hc2 hsrc hs0 hs2 HB2
  go_wp2_with fail
  refine (veil_whole (Pure.head key use (Pure.drawOf zs)) va p2 _ _ vc w2 ho2 HL2 (by omega)).mono ?_
  rintro e w3 ⟨rfl,ho3,hf3⟩
  have hpl : Pure.plainOf key use zs = Pure.veil (Pure.head key use (Pure.drawOf zs)) ((zs.drop 8).take (L - 8 - 8)) := by unfold Pure.plainOf; rw [hL.out,show L - 16 = L - 8 - 8 from by omega]
  rw [← hpl] at ho3
  have R3 : OutMore w1 w3 (.slice va (L - 8 - 8) vc) p (Pure.plainOf key use zs) := OutMore.comp HC2.out ⟨p2,ho3,hf3,.inl rfl,fun _ _ _ => rfl⟩ (by rw [hpl,Pure.veil_length]; exact Nat.le_refl _)
  have R := hid (R3.before hg1)
  have hF := R.out.cf
  have hz3 : At w3 ao zs := hz.cf hF HSEP.out
  have hend : At w3 a3 (zs.drop (L - 8)) := hat3 _ hz3
  have hdl : Hid ((zs.drop (L - 8)).length = 8) := by have h := hL.out; show _ = _; simp; omega
  have hpll : Hid ((Pure.plainOf key use zs).length = L - 8 - 8) := by have h := hL.out; show _ = _; rw [Pure.plainOf_length]; omega
  obtain ⟨_,_,hvq,_,_,hatp⟩ := ho3.shape
  rw [hpll.out] at hvq
  injection hvq with e1 e2 e3
  subst e1
  clear e2 e3
  have hatp' := hatp.1
  have hle : L - 8 - 8 ≤ 140737488355328 := by omega
  have h8 : 8 ≤ 140737488355328 := by omega
  clear hpl ho2 HC2 hf3 R3 hz3 hat3 hatp ho3 HL2
  cases ho : Pure.opens key use zs
  all_goals
   have hbn := Pure.opens_bne key use zs L hL.out _ ho
   have HO := hid ho
   clear ho
   go_wp2_with fail
   go_quiet (first | (go_at_call 115; exact hashOn_q (Pure.head key use (Pure.drawOf zs)) (Pure.plainOf key use zs) (L - 8 - 8) _ _ w3 _ hpll hle hatp') | (go_at_call 113; refine join_q 0 (zs.drop (L - 8)) 8 _ _ w3 _ hdl h8 hend))
   go_wp2
   go_ret2
   first
    | exact ⟨fun h => absurd (HO.out.symm.trans h) (by decide),fun _ => ⟨rfl,hF.drewN _⟩⟩
    | exact ⟨fun _ => ⟨_,rfl,R.out.drewN _⟩,fun h => absurd (HO.out.symm.trans h) (by decide)⟩
theorem has_none {b o : Nat} : ¬ Pl.has none b o := by rintro ⟨q,hq,_⟩; cases hq
theorem OutMore.nil {w w' : World} {v : Value} {bs : List UInt8} (h : OutMore w w' v none bs) : ∃ p,Out w' v p bs ∧ Pl.fresh w.heap.size p ∧ w.grownBy w' none := by
 obtain ⟨p,h1,h2,h3,_⟩ := h
 refine ⟨p,h1,?_,h2.gb (fun _ _ _ => has_none)⟩
 rcases h3 with h3 | h3
 ·rw [h3]; intro q hq; cases hq
 ·exact h3
set_option maxHeartbeats 400000 in
theorem unseal_yes (key use : UInt64) (x : Int) (ao : Option Addr) (zs : List UInt8) (L cap : Nat) (w : World) (hx : isU x = true) (hu : Hid (x = use.toNat)) (hL : Hid (zs.length = L)) (h16 : 16 ≤ L) (h216 : L ≤ 216) (hcap : L ≤ cap) (hz : At w ao zs) (ho : Hid (Pure.opens key use zs = true)) :
  Calls Tryz.prog 57 #[.int .u64 (key.toNat : Int),.int .i64 x,.slice ao L cap] w fun e w' => ∃ v p,e = .returned (.tuple #[v,.int .i64 0]) ∧ Out w' v p (Pure.plainOf key use zs) ∧ Pl.fresh w.heap.size p ∧ w.grownBy w' none := by
 go_enter Tryz.func57,Tryz.ntmps57
 go_wp2_with fail
 refine (open_any _ none [] key use x ao zs L cap w (Out.nil w) hx hu hL h16 h216 hcap hz (fun _ _ _ _ _ => has_none)).mono ?_
 rintro e w1 ⟨h1,_⟩
 obtain ⟨v,rfl,h2⟩ := h1 ho.out
 obtain ⟨p,h3,h4,h5⟩ := h2.nil
 clear h1 h2
 go_wp2
 go_ret2
 exact ⟨v,p,rfl,h3,h4,h5⟩
end Go.Proofs.YtpijkgbafjccaaaGreatDoor
namespace Go.Proofs.YtpijkgbafjccaaaGreatDoor
open Go.RowKit
set_option maxRecDepth 100000
set_option maxHeartbeats 400000 in
theorem wunseal_yes (key use : UInt64) (x : Int) (ao : Option Addr) (zs : List UInt8) (L cap : Nat) (w : World) (hx : isU x = true) (hu : Hid (x = use.toNat)) (hL : Hid (zs.length = L)) (h16 : 16 ≤ L) (h216 : L ≤ 216) (hcap : L ≤ cap) (hz : At w ao zs) (ho : Hid (Pure.opens key use zs = true)) :
  Calls Tryz.prog 40 #[.int .u64 (key.toNat : Int),.int .i64 x,.slice ao L cap] w fun e w' => ∃ v p,e = .returned (.tuple #[v,.int .i64 0]) ∧ Out w' v p (Pure.plainOf key use zs) ∧ Pl.fresh w.heap.size p ∧ w.grownBy w' none := by
 go_enter Tryz.func40,Tryz.ntmps40
 go_wp2_with fail
 refine (unseal_yes key use x ao zs L cap _ hx hu hL h16 h216 hcap hz ho).mono ?_
 rintro e w1 ⟨v,p,rfl,h3,h4,h5⟩
 go_wp2
 go_ret2
 exact ⟨v,p,rfl,h3,h4,h5⟩
end Go.Proofs.YtpijkgbafjccaaaGreatDoor
