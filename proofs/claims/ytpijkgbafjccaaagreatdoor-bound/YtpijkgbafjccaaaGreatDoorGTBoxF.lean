/-
  
  
  
  
-/
import Derived.Test.YtpijkgbafjccaaaGreatDoorGTBoxC
import Derived.Test.YtpijkgbafjccaaaGreatDoorGTBox
import Derived.Test.YtpijkgbafjccaaaGreatDoorGTBoxM
namespace Go.Proofs.YtpijkgbafjccaaaGreatDoor
open Go.RowKit
set_option maxRecDepth 100000
def lenOf : Value → Nat
 | .slice _ n _ => n
 | _ => 0
def ShowAt (d : Nat) : Prop :=
 ∀ (B : Nat) (sv : Value) (n0 : Nat) (bs zs : List UInt8) (n : Nat) (ao : Option Addr) (cap : Nat) (w : World),w.ownsRow B 5 1 sv n0 (bs.map U8) → B ≤ w.heap.size → Hid (zs.length = n) → n ≤ 100000 → n ≤ cap → cap ≤ 9223372036854775807 → Low B w ao zs → n0 ≤ 100000000 * (999 - d) → Tab B w →
  Calls Tryz.prog 65 #[sv,.slice ao n cap,.int .i64 (d : Int)] w fun e w' =>
   (∀ t r,Box.show1 d zs = some (t,r) → ∃ o a2 c2,e = .returned (.tuple #[o,.slice a2 r.length c2,.bool true]) ∧ w'.ownsRow B 5 1 o (n0 + t.length) ((bs ++ t).map U8) ∧ (∀ w0,At w0 ao zs → At w0 a2 r) ∧ r.length ≤ c2 ∧ c2 ≤ cap) ∧
   (Box.show1 d zs = none → ∃ o v,e = .returned (.tuple #[o,v,.bool false])) ∧ Below B w w'
set_option maxHeartbeats 1000000 in
theorem showList_zero (sv : Value) (v : Value) (w : World) :
  Calls Tryz.prog 81 #[sv,v,.int .i64 0] w fun e w' => e = .returned (.tuple #[.slice none 0 0,.bool false]) ∧ w = w' := by
 go_enter Tryz.func81,Tryz.ntmps81
 go_wp2
 go_ret2
 exact ⟨rfl,rfl⟩
set_option maxHeartbeats 1000000 in
theorem showList_succ (d : Nat) (hd : d ≤ 8) (ih : ShowAt d) (B : Nat) (sv : Value) (n0 : Nat) (bs zs : List UInt8) (n : Nat) (ao : Option Addr) (cap : Nat) (w : World) (hown : w.ownsRow B 5 1 sv n0 (bs.map U8)) (hB : B ≤ w.heap.size) (hn : Hid (zs.length = n)) (hl : n ≤ 100000) (hcap : n ≤ cap) (hcm : cap ≤ 9223372036854775807) (hlow : Low B w ao zs) (hb : n0 ≤ 100000000 * (998 - d)) (htab : Tab B w) :
  Calls Tryz.prog 81 #[sv,.slice ao n cap,.int .i64 ((d : Int) + 1)] w fun e w' =>
   (∀ ts,Box.allL (Box.show1 d) zs = some ts → ∃ o,e = .returned (.tuple #[o,.bool true]) ∧ w'.ownsRow B 5 1 o (n0 + ((Box.commas ts).length + 2)) ((bs ++ (123 :: Box.commas ts ++ [125])).map U8)) ∧
   (Box.allL (Box.show1 d) zs = none → ∃ o,e = .returned (.tuple #[o,.bool false])) ∧ Below B w w' := by
 obtain ⟨i0,hif,hz0,hz1,hz2⟩ := info_parts Tryz.info5
 have hdn : (((d : Int) + 1) == 0) = false := by rw [beq_eq_false_iff_ne]; omega
 go_enter Tryz.func81,Tryz.ntmps81
 go_wp2_with (at_builtin; refine wpList_append_at _ rfl _ _ 26 rfl B 5 i0 Tryz.underlying26 hif hz0 hz1 hz2 _ _ _ rfl (hown.alloc _) (some ⟨w.heap.size,0,none⟩) 1 1 [123] rfl rfl ?c1 ?c2 ?c3 ?c4 ?_)
 case c1 => intro h; cases h
 case c2 => exact bytes_new w _ _ _ rfl
 case c3 => omega
 case c4 => simp; omega
 intro v1 w1 hown1 hg1 _
 have B1 : Below B w w1 := bel_row (bel_alloc (Below.refl _ _) hB _) hg1 (fun i hi => (hown.lt i hi).1) (by simp; omega)
 clear hown hg1
 go_wp2
 go_loopw [0,1,7,8] (fun o i _ f wr => ∃ (rem : List UInt8) (done : List (List UInt8)) (a' : Option Addr) (c' : Nat),i = .slice a' rem.length c' ∧ rem.length ≤ n ∧ rem.length ≤ c' ∧ c' ≤ cap ∧ (∀ w0,At w0 ao zs → At w0 a' rem) ∧ f = .bool (decide (done = [])) ∧ Hid (Box.allL (Box.show1 d) zs = (Box.allL (Box.show1 d) rem).map (done ++ ·)) ∧ (Box.commas done).length + 22 * rem.length ≤ 22 * n ∧ wr.ownsRow B 5 1 o (n0 + 1 + (Box.commas done).length) ((bs ++ [123] ++ Box.commas done).map U8) ∧ Below B w wr) (fun _ i _ _ _ => lenOf i)
 case atStart => exact ⟨zs,[],ao,cap,by rw [hn.out],by rw [hn.out]; omega,by rw [hn.out]; exact hcap,Nat.le_refl _,fun _ h => h,rfl,by show _ = _; cases Box.allL (Box.show1 d) zs <;> rfl,by simp [Box.commas,hn.out],by simpa [Box.commas] using hown1,B1⟩
 case round =>
  obtain ⟨rem,done,a',c',rfl,hrn,hrc,hcc,hpart,rfl,HA,hlen,hown,hbl⟩ := hrel
  have hBr := Nat.le_trans hB hbl.size
  by_cases h0 : 0 < rem.length
  ·have hgt : ((0 : Int) < (rem.length : Int)) := by omega
   by_cases hdone : done = []
   ·subst hdone
    go_wp2_with fail
    refine (ih B u0 (n0 + 1 + (Box.commas []).length) (bs ++ [123] ++ Box.commas []) rem rem.length a' c' _ hown hBr (hid rfl) (by omega) hrc (by omega) ((hlow.part hpart).on hbl) (by simp [Box.commas]; omega) (htab.on hbl)).mono ?_
    rintro e w3 ⟨k1,k2,B3⟩
    replace B3 := hbl.trans B3
    cases hsh : Box.show1 d rem with
    | none =>
     obtain ⟨o,v,rfl⟩ := k2 hsh
     have HN : Hid (Box.allL (Box.show1 d) zs = none) := by show _ = _; rw [HA.out,Box.allL_none h0 hsh]; rfl
     clear k1 k2 hsh
     go_wp2
     go_ret2
     exact ⟨fun ts h => by rw [HN.out] at h; simp at h,fun _ => ⟨_,rfl⟩,B3⟩
    | some tr =>
     obtain ⟨t,r⟩ := tr
     obtain ⟨o,a2,c2,rfl,hown3,hp3,hc3,hc4⟩ := k1 t r hsh
     have hshr := Box.show1_shrinks d rem t r hsh
     have htl := Box.show1_told d rem t r hsh
     have HA3 : Hid (Box.allL (Box.show1 d) zs = (Box.allL (Box.show1 d) r).map ([t] ++ ·)) := by
      show _ = _
      rw [HA.out,Box.allL_some (Box.show1_shrinks d) hsh,Option.map_map]
      first | rfl | (congr 1; funext x; simp)
     have HC3 : Hid (Box.commas [t] = t) := by
      show _ = _
      rfl
     clear k1 k2 hsh
     go_wp2
     go_roundw
     case rel =>
      refine ⟨r,[t],a2,c2,rfl,by omega,hc3,by omega,fun w0 h => hp3 w0 (hpart w0 h),by simp,HA3,?_,?_,B3⟩
      ·rw [HC3.out]; simp [Box.commas] at hlen; omega
      ·rw [HC3.out]
       simpa [Box.commas] using hown3
     case measure => simp [lenOf]; omega
   ·have hdf : decide (done = []) = false := by simpa using hdone
    rw [hdf]
    go_wp2_with (at_builtin; refine wpList_append_at _ rfl _ _ 26 rfl B 5 i0 Tryz.underlying26 hif hz0 hz1 hz2 _ _ _ rfl (hown.alloc _) (some ⟨wr.heap.size,0,none⟩) 1 1 [44] rfl rfl ?c1 ?c2 ?c3 ?c4 ?_)
    case c1 => intro h; cases h
    case c2 => exact bytes_new wr _ _ _ rfl
    case c3 => omega
    case c4 => simp; omega
    intro v2 w2 hown2 hg2 _
    have B2 : Below B w w2 := bel_row (bel_alloc hbl hBr _) hg2 (fun i hi => (hown.lt i hi).1) (by simp; omega)
    have hB2 := Nat.le_trans hB B2.size
    clear hown hg2 hdf
    go_wp2_with fail
    refine (ih B v2 (n0 + 1 + (Box.commas done).length + 1) (bs ++ [123] ++ Box.commas done ++ [44]) rem rem.length a' c' _ (by simpa using hown2) hB2 (hid rfl) (by omega) hrc (by omega) ((hlow.part hpart).on B2) (by omega) (htab.on B2)).mono ?_
    rintro e w3 ⟨k1,k2,B3⟩
    replace B3 := B2.trans B3
    cases hsh : Box.show1 d rem with
    | none =>
     obtain ⟨o,v,rfl⟩ := k2 hsh
     have HN : Hid (Box.allL (Box.show1 d) zs = none) := by show _ = _; rw [HA.out,Box.allL_none h0 hsh]; rfl
     clear k1 k2 hsh
     go_wp2
     go_ret2
     exact ⟨fun ts h => by rw [HN.out] at h; simp at h,fun _ => ⟨_,rfl⟩,B3⟩
    | some tr =>
     obtain ⟨t,r⟩ := tr
     obtain ⟨o,a2,c2,rfl,hown3,hp3,hc3,hc4⟩ := k1 t r hsh
     have hshr := Box.show1_shrinks d rem t r hsh
     have htl := Box.show1_told d rem t r hsh
     have HA3 : Hid (Box.allL (Box.show1 d) zs = (Box.allL (Box.show1 d) r).map ((done ++ [t]) ++ ·)) := by
      show _ = _
      rw [HA.out,Box.allL_some (Box.show1_shrinks d) hsh,Option.map_map]
      first | rfl | (congr 1; funext x; simp)
     have HC3 : Hid (Box.commas (done ++ [t]) = Box.commas done ++ 44 :: t) := by
      show _ = _
      rw [Box.commas_snoc,if_neg hdone]
     clear k1 k2 hsh
     go_wp2
     go_roundw
     case rel =>
      refine ⟨r,done ++ [t],a2,c2,rfl,by omega,hc3,by omega,fun w0 h => hp3 w0 (hpart w0 h),by simp,HA3,?_,?_,B3⟩
      ·rw [HC3.out]; simp; omega
      ·rw [HC3.out]
       rw [List.length_append,List.length_cons,show n0 + 1 + ((Box.commas done).length + (t.length + 1)) = n0 + 1 + (Box.commas done).length + 1 + t.length from by omega]; simpa using hown3
     case measure => simp [lenOf]; omega
  ·have hr0 : rem = [] := List.eq_nil_of_length_eq_zero (by omega)
   subst hr0
   have HE : Hid (Box.allL (Box.show1 d) zs = some done) := by show _ = _; rw [HA.out,Box.allL_nil]; simp
   simp only [List.length_nil] at *
   go_wp2_with (at_builtin; refine wpList_append_at _ rfl _ _ 26 rfl B 5 i0 Tryz.underlying26 hif hz0 hz1 hz2 _ _ _ rfl (hown.alloc _) (some ⟨wr.heap.size,0,none⟩) 1 1 [125] rfl rfl ?c1 ?c2 ?c3 ?c4 ?_)
   case c1 => intro h; cases h
   case c2 => exact bytes_new wr _ _ _ rfl
   case c3 => omega
   case c4 => simp; omega
   intro v2 w2 hown2 hg2 _
   have B2 : Below B w w2 := bel_row (bel_alloc hbl hBr _) hg2 (fun i hi => (hown.lt i hi).1) (by simp; omega)
   clear hown hg2
   go_wp2
   go_ret2
   refine ⟨fun ts h => ?_,(fun h => by rw [HE.out] at h; simp at h),B2⟩
   rw [HE.out] at h
   simp only [Option.some.injEq] at h
   subst h
   refine ⟨_,rfl,?_⟩
   rw [show n0 + ((Box.commas done).length + 2) = n0 + 1 + (Box.commas done).length + 1 from by omega]
   simpa using hown2
end Go.Proofs.YtpijkgbafjccaaaGreatDoor
namespace Go.Proofs.YtpijkgbafjccaaaGreatDoor
open Go.RowKit
set_option maxRecDepth 100000
def ListAt (d : Nat) (inner : List UInt8 → Option (List (List UInt8))) : Prop :=
 ∀ (B : Nat) (sv : Value) (n0 : Nat) (bs zs : List UInt8) (n : Nat) (ao : Option Addr) (cap : Nat) (w : World),w.ownsRow B 5 1 sv n0 (bs.map U8) → B ≤ w.heap.size → Hid (zs.length = n) → n ≤ 100000 → n ≤ cap → cap ≤ 9223372036854775807 → Low B w ao zs → n0 ≤ 100000000 * (999 - d) → Tab B w →
  Calls Tryz.prog 81 #[sv,.slice ao n cap,.int .i64 (d : Int)] w fun e w' =>
   (∀ ts,inner zs = some ts → ∃ o,e = .returned (.tuple #[o,.bool true]) ∧ w'.ownsRow B 5 1 o (n0 + ((Box.commas ts).length + 2)) ((bs ++ (123 :: Box.commas ts ++ [125])).map U8)) ∧
   (inner zs = none → ∃ o,e = .returned (.tuple #[o,.bool false])) ∧ Below B w w'
theorem list_zero : ListAt 0 (fun _ => none) := by
 intro B sv n0 bs zs n ao cap w _ _ _ _ _ _ _ _ _
 exact (showList_zero sv (.slice ao n cap) w).mono fun e w' ⟨h1,h2⟩ => ⟨fun ts h => by simp at h,fun _ => ⟨_,h1⟩,h2 ▸ Below.refl _ _⟩
theorem list_succ (d : Nat) (hd : d ≤ 8) (ih : ShowAt d) : ListAt (d + 1) (Box.allL (Box.show1 d)) := by
 intro B sv n0 bs zs n ao cap w h1 h2 h3 h4 h5 h6 h7 h8 h9
 have := showList_succ d hd ih B sv n0 bs zs n ao cap w h1 h2 h3 h4 h5 h6 h7 (by omega) h9
 rw [show (((d + 1 : Nat)) : Int) = (d : Int) + 1 from by omega]
 exact this
theorem tag_lit {tag : UInt8} {k : Nat} (h : tag.toNat = k) : ((tag.toNat : Int) == (k : Int)) = true := by rw [beq_iff_eq]; omega
set_option maxHeartbeats 1000000 in
theorem show_of_list (d : Nat) (hd : d ≤ 8) (inner : List UInt8 → Option (List (List UInt8))) (hl : ListAt d inner)
  (hs : ∀ zs,Box.show1 d zs = match Box.cut zs with | none => none | some (tag,i,r) => (Box.piece inner tag i).map (·,r)) : ShowAt d := by
 intro B sv n0 bs zs n ao cap w hown hB hn hn1 hcap hcm hlow hb htab
 have hcut := cut_any zs n ao cap w hn (by omega) hcap hcm hlow.here
 have HS := hid (hs zs)
 clear hs
 cases hcu : Box.cut zs with
 | none =>
  rw [hcu] at HS hcut
  clear hcu
  go_enter Tryz.func65,Tryz.ntmps65
  go_wp2_with fail
  refine hcut.mono ?_
  rintro e w' ⟨_,k2,m,rfl⟩
  obtain rfl := k2 trivial
  clear k2 hcut
  go_wp2
  go_ret3
  exact ⟨fun t r h => by rw [HS.out] at h; simp at h,fun _ => ⟨_,_,rfl⟩,bel_drewN (Below.refl _ _) _⟩
 | some tir =>
  obtain ⟨tag,i,r⟩ := tir
  have hcl := Box.cut_length hcu
  rw [hn.out] at hcl
  rw [hcu] at HS hcut
  clear hcu
  go_enter Tryz.func65,Tryz.ntmps65
  go_wp2_with fail
  refine hcut.mono ?_
  rintro e w1 ⟨k1,_,m,rfl⟩
  obtain ⟨a1,c1,a2,c2,rfl,hp1,hc1,hcc1,hp2,hc2,hcc2⟩ := k1 tag i r rfl
  clear k1 hcut
  have hB1 : B ≤ (w.drewN m).heap.size := hB
  have hown1 : (w.drewN m).ownsRow B 5 1 sv n0 (bs.map U8) := hown
  have Bm : Below B w (w.drewN m) := bel_drewN (Below.refl _ _) m
  have hlow1 := (hlow.part hp1).on Bm
  have htab1 := htab.on Bm
  by_cases t2 : tag.toNat = 2
  ·have q2 : ((tag.toNat : Int) == 2) = true := tag_lit t2
   have HP : Hid (Box.show1 d zs = ((Box.num i).map Lib.itoa).map (·,r)) := by show _ = _; rw [HS.out]; simp [Box.piece,Box.leaf,t2]
   go_wp2_with fail
   refine (showNumber_any B sv n0 bs i i.length a1 c1 _ hown1 hB1 (hid rfl) (by omega) hc1 hlow1.here (by omega) htab1).mono ?_
   rintro e w2 ⟨k1,k2,B2⟩
   cases hnum : Box.num i with
   | none =>
    obtain ⟨o,rfl⟩ := k2 hnum
    rw [hnum] at HP
    clear k1 k2 hnum
    go_wp2
    go_ret3
    exact ⟨fun t r h => by rw [HP.out] at h; simp at h,fun _ => ⟨_,_,rfl⟩,Bm.trans B2⟩
   | some v =>
    obtain ⟨o,rfl,hown2⟩ := k1 v hnum
    rw [hnum] at HP
    clear k1 k2 hnum
    go_wp2
    go_ret3
    refine ⟨fun t r' h => ?_,(fun h => by rw [HP.out] at h; simp at h),Bm.trans B2⟩
    rw [HP.out] at h
    simp only [Option.map_some,Option.some.injEq,Prod.mk.injEq] at h
    obtain ⟨rfl,rfl⟩ := h
    exact ⟨_,a2,c2,rfl,hown2,hp2,hc2,hcc2⟩
  ·have q2 : ((tag.toNat : Int) == 2) = false := by rw [beq_eq_false_iff_ne]; omega
   by_cases t4 : tag.toNat = 4
   ·have q4 : ((tag.toNat : Int) == 4) = true := tag_lit t4
    have HP : Hid (Box.show1 d zs = some (34 :: Box.hex i ++ [34],r)) := by show _ = _; rw [HS.out]; simp [Box.piece,Box.leaf,t4]
    go_wp2_with fail
    refine (showText_any B sv n0 bs i i.length a1 c1 _ hown1 hB1 (hid rfl) hlow1 (by omega)).mono ?_
    rintro e w2 ⟨o,rfl,hown2,B2⟩
    go_wp2
    go_ret3
    refine ⟨fun t r' h => ?_,(fun h => by rw [HP.out] at h; simp at h),Bm.trans B2⟩
    rw [HP.out] at h
    simp only [Option.some.injEq,Prod.mk.injEq] at h
    obtain ⟨rfl,rfl⟩ := h
    refine ⟨_,a2,c2,rfl,?_,hp2,hc2,hcc2⟩
    rw [show (34 :: Box.hex i ++ [34] : List UInt8).length = 2 * i.length + 2 from by simp [Box.hex_length]]
    exact hown2
   ·have q4 : ((tag.toNat : Int) == 4) = false := by rw [beq_eq_false_iff_ne]; omega
    by_cases t48 : tag.toNat = 48
    ·have q48 : ((tag.toNat : Int) == 48) = true := tag_lit t48
     have HP : Hid (Box.show1 d zs = ((inner i).map fun ts => 123 :: Box.commas ts ++ [125]).map (·,r)) := by show _ = _; rw [HS.out]; simp [Box.piece,t48]
     go_wp2_with fail
     refine (hl B sv n0 bs i i.length a1 c1 _ hown1 hB1 (hid rfl) (by omega) hc1 (by omega) hlow1 hb htab1).mono ?_
     rintro e w2 ⟨k1,k2,B2⟩
     cases hin : inner i with
     | none =>
      obtain ⟨o,rfl⟩ := k2 hin
      rw [hin] at HP
      clear k1 k2 hin
      go_wp2
      go_ret3
      exact ⟨fun t r h => by rw [HP.out] at h; simp at h,fun _ => ⟨_,_,rfl⟩,Bm.trans B2⟩
     | some ts =>
      obtain ⟨o,rfl,hown2⟩ := k1 ts hin
      rw [hin] at HP
      clear k1 k2 hin
      go_wp2
      go_ret3
      refine ⟨fun t r' h => ?_,(fun h => by rw [HP.out] at h; simp at h),Bm.trans B2⟩
      rw [HP.out] at h
      simp only [Option.map_some,Option.some.injEq,Prod.mk.injEq] at h
      obtain ⟨rfl,rfl⟩ := h
      refine ⟨_,a2,c2,rfl,?_,hp2,hc2,hcc2⟩
      rw [show (123 :: Box.commas ts ++ [125] : List UInt8).length = (Box.commas ts).length + 2 from by simp]
      exact hown2
    ·have q48 : ((tag.toNat : Int) == 48) = false := by rw [beq_eq_false_iff_ne]; omega
     have HP : Hid (Box.show1 d zs = none) := by show _ = _; rw [HS.out]; simp [Box.piece,Box.leaf,t2,t4,t48]
     go_wp2_with fail
     go_ret3
     exact ⟨fun t r h => by rw [HP.out] at h; simp at h,fun _ => ⟨_,_,rfl⟩,Bm⟩
theorem show_any (d : Nat) (hd : d ≤ 8) : ShowAt d := by
 induction d with
 | zero =>
  refine show_of_list 0 hd _ list_zero fun zs => ?_
  rw [Box.show1]
  cases Box.cut zs with
  | none => rfl
  | some tir =>
   obtain ⟨tag,i,r⟩ := tir
   simp only [Box.piece]
   split
   ·rename_i h
    simp [Box.leaf,h]
   ·rfl
 | succ d ih => exact show_of_list (d + 1) hd _ (list_succ d (by omega) (ih (by omega))) fun zs => by rw [Box.show1]; rfl
end Go.Proofs.YtpijkgbafjccaaaGreatDoor
namespace Go.Proofs.YtpijkgbafjccaaaGreatDoor
open Go.RowKit
set_option maxRecDepth 100000
abbrev TabHere (w : World) : Prop := Lib.TabIs Tryz.prog w tabName .u64 Lib.pow10Tab
set_option maxHeartbeats 1000000 in
theorem bShow_any (zs : List UInt8) (n : Nat) (ao : Option Addr) (cap : Nat) (w : World) (hn : Hid (zs.length = n)) (hl : n ≤ 100000) (hcap : n ≤ cap) (hcm : cap ≤ 9223372036854775807) (hat : At w ao zs) (htab : TabHere w) :
  Calls Tryz.prog 50 #[.slice ao n cap] w fun e w' =>
   (∀ t,Box.whole zs = some t → e = .returned (.tuple #[.string ⟨t.toArray⟩,.bool true])) ∧
   (Box.whole zs = none → e = .returned (.tuple #[.string ⟨#[]⟩,.bool false])) ∧ Below w.heap.size w w' := by
 have hsh := show_any 8 (by omega) w.heap.size (.slice none 0 0) 0 [] zs n ao cap w (World.ownsRow_nil _ _ _ _) (Nat.le_refl _) hn hl hcap hcm hat.low (by omega) (Lib.tabBelow_of_tabIs htab)
 have HW : Hid (Box.whole zs = match Box.show1 8 zs with | some (t,[]) => some t | _ => none) := rfl
 cases hs : Box.show1 8 zs with
 | none =>
  rw [hs] at HW hsh
  clear hs
  go_enter Tryz.func50,Tryz.ntmps50
  go_wp2_with fail
  refine hsh.mono ?_
  rintro e w' ⟨_,k2,hb⟩
  obtain ⟨o,v,rfl⟩ := k2 trivial
  clear k2 hsh
  go_wp2
  go_ret2
  exact ⟨fun t h => by rw [HW.out] at h; simp at h,fun _ => rfl,hb⟩
 | some tr =>
  obtain ⟨t,r⟩ := tr
  rw [hs] at HW hsh
  clear hs
  by_cases hr : r.length = 0
  ·have hr' : r = [] := List.eq_nil_of_length_eq_zero hr
   subst hr'
   go_enter Tryz.func50,Tryz.ntmps50
   go_wp2_with fail
   refine hsh.mono ?_
   rintro e w' ⟨k1,_,hb⟩
   obtain ⟨o,a2,c2,rfl,hown,_,_,_⟩ := k1 t [] rfl
   clear k1 hsh hr
   rw [List.nil_append,Nat.zero_add] at hown
   obtain ⟨a3,c3,rfl,_,_,_,hat3⟩ := own_at2 hown
   have hcv := run_string_of (P := Tryz.prog) w' 26 9 5 Tryz.underlying26 Tryz.underlying5 Tryz.underlying9 a3 c3 t hat3
   simp only [List.length_nil]
   go_wp2
   go_ret2
   refine ⟨fun t' h => ?_,(fun h => by rw [HW.out] at h; simp at h),hb⟩
   rw [HW.out] at h
   simp only [Option.some.injEq] at h
   subst h
   rfl
  ·have hr2 : (0 : Int) < (r.length : Int) := by omega
   have HN : Hid (Box.whole zs = none) := by
    show _ = _
    rw [HW.out]
    cases r with
    | nil => simp at hr
    | cons a r => rfl
   go_enter Tryz.func50,Tryz.ntmps50
   go_wp2_with fail
   refine hsh.mono ?_
   rintro e w' ⟨k1,_,hb⟩
   obtain ⟨o,a2,c2,rfl,_,_,_,_⟩ := k1 t r rfl
   clear k1 hsh hr
   go_wp2
   go_ret2
   exact ⟨fun t h => by rw [HN.out] at h; simp at h,fun _ => rfl,hb⟩
def shown (l : List UInt8) : Option (List UInt8) := if l.length ≤ 300 then Box.whole l else none
def showRes (l : List UInt8) : Value :=
 match shown l with
 | some t => .tuple #[.string ⟨t.toArray⟩,.int .i64 0]
 | none => .tuple #[.string ⟨#[]⟩,.int .i64 2]
set_option maxHeartbeats 1000000 in
theorem wshow_any (zs : List UInt8) (n : Nat) (ao : Option Addr) (cap : Nat) (w : World) (hn : Hid (zs.length = n)) (hcap : n ≤ cap) (hcm : cap ≤ 9223372036854775807) (hat : At w ao zs) (htab : TabHere w) :
  Calls Tryz.prog 36 #[.slice ao n cap] w fun e w' => e = .returned (showRes zs) ∧ Below w.heap.size w w' := by
 by_cases h : n ≤ 300
 ·have h' : ¬ ((300 : Int) < (n : Int)) := by omega
  have hsh := bShow_any zs n ao cap w hn (by omega) hcap hcm hat htab
  have HS : Hid (showRes zs = match Box.whole zs with | some t => .tuple #[.string ⟨t.toArray⟩,.int .i64 0] | none => .tuple #[.string ⟨#[]⟩,.int .i64 2]) := by
   show _ = _
   rw [showRes,shown,if_pos (by rw [hn.out]; exact h)]
  cases hs : Box.whole zs with
  | none =>
   rw [hs] at HS hsh
   clear hs
   go_enter Tryz.func36,Tryz.ntmps36
   go_wp2_with fail
   refine hsh.mono ?_
   rintro e w' ⟨_,k2,hb⟩
   obtain rfl := k2 trivial
   clear k2 hsh
   go_wp2
   go_ret2
   exact ⟨by rw [HS.out]; rfl,hb⟩
  | some t =>
   rw [hs] at HS hsh
   clear hs
   go_enter Tryz.func36,Tryz.ntmps36
   go_wp2_with fail
   refine hsh.mono ?_
   rintro e w' ⟨k1,_,hb⟩
   obtain rfl := k1 t rfl
   clear k1 hsh
   go_wp2
   go_ret2
   exact ⟨by rw [HS.out]; rfl,hb⟩
 ·have h' : ((300 : Int) < (n : Int)) := by omega
  have HS : Hid (showRes zs = .tuple #[.string ⟨#[]⟩,.int .i64 2]) := by
   show _ = _
   rw [showRes,shown,if_neg (by rw [hn.out]; exact h)]
  go_enter Tryz.func36,Tryz.ntmps36
  go_wp2
  go_ret2
  exact ⟨by rw [HS.out]; rfl,Below.refl _ _⟩
end Go.Proofs.YtpijkgbafjccaaaGreatDoor
namespace Go.Proofs.YtpijkgbafjccaaaGreatDoor
open Go.RowKit
set_option maxRecDepth 100000
theorem dig_int (m : Nat) (h : m < 16) : ((Box.dig m).toNat : Int) = if m < 10 then 48 + (m : Int) else 87 + (m : Int) := by
 unfold Box.dig
 split <;> (rw [UInt8.toNat_ofNat',Nat.mod_eq_of_lt (by omega)]; omega)
set_option maxHeartbeats 400000 in
theorem kdigit_any (m : Nat) (w : World) (h : m < 16) : Calls Tryz.prog 51 #[.int .u8 ((Box.dig m).toNat : Int)] w fun e w' => e = .returned (.int .i64 m) ∧ w = w' := by
 rw [dig_int m h]
 by_cases h10 : m < 10
 ·rw [if_pos h10]
  go_enter Tryz.func51,Tryz.ntmps51
  go_wp2
  go_ret
  exact ⟨ret_i64 (by omega),rfl⟩
 ·rw [if_neg h10]
  go_enter Tryz.func51,Tryz.ntmps51
  go_wp2
  go_ret
  exact ⟨ret_i64 (by omega),rfl⟩
def valD (l : List UInt8) : Nat := l.foldl (fun a b => a * 10 + (b.toNat - 48)) 0
theorem valD_snoc (l : List UInt8) (b : UInt8) : valD (l ++ [b]) = valD l * 10 + (b.toNat - 48) := by simp [valD]
theorem decDigits_val (u : Nat) : valD (Lib.decDigits u) = u ∧ ∀ b ∈ Lib.decDigits u,48 ≤ b.toNat ∧ b.toNat ≤ 57 := by
 induction u using Nat.strongRecOn with
 | ind u ih =>
  rw [Lib.decDigits]
  split
  ·rename_i h
   have e : (UInt8.ofNat (48 + u)).toNat = 48 + u := by rw [UInt8.toNat_ofNat',Nat.mod_eq_of_lt (by omega)]
   refine ⟨by simp only [valD,List.foldl_cons,List.foldl_nil]; rw [e]; omega,?_⟩
   intro b hb
   rw [List.mem_singleton.1 hb,e]
   omega
  ·rename_i h
   obtain ⟨h1,h2⟩ := ih (u / 10) (by omega)
   have e : (UInt8.ofNat (48 + u % 10)).toNat = 48 + u % 10 := by rw [UInt8.toNat_ofNat',Nat.mod_eq_of_lt (by omega)]
   refine ⟨by rw [valD_snoc,h1,e]; omega,?_⟩
   intro b hb
   rcases List.mem_append.1 hb with hb | hb
   ·exact h2 b hb
   ·rw [List.mem_singleton.1 hb,e]
    omega
theorem valD_take (l : List UInt8) (k : Nat) : valD (l.take k) ≤ valD l := by
 induction h : l.length - k generalizing k with
 | zero => rw [List.take_of_length_le (by omega)]; exact Nat.le_refl _
 | succ n ih =>
  have hk : k < l.length := by omega
  have h1 := ih (k + 1) (by omega)
  rw [List.take_succ_eq_append_getElem hk,valD_snoc] at h1
  omega
theorem bgetK {S : ByteArray} {l : List UInt8} (hS : S = ⟨l.toArray⟩) (j : Nat) (h : j < S.size) : S[j]'h = l.getD j 0 := by
 subst hS
 have hj : j < l.length := by simpa [ByteArray.size] using h
 simp only [List.getD,List.getElem?_eq_getElem hj,Option.getD_some]
 rfl
theorem getD_mem {l : List UInt8} {j : Nat} (h : j < l.length) : l.getD j 0 ∈ l := by
 rw [show l.getD j 0 = l[j] from by simp [List.getD,List.getElem?_eq_getElem h]]
 exact List.getElem_mem h
theorem valD_next {l : List UInt8} {k : Nat} (h : k < l.length) : valD (l.take (k + 1)) = valD (l.take k) * 10 + ((l.getD k 0).toNat - 48) := by
 rw [List.take_succ_eq_append_getElem h,valD_snoc]
 simp [List.getD,List.getElem?_eq_getElem h]
set_option maxHeartbeats 1000000 in
theorem whole_pos (l : List UInt8) (n : Nat) (S : ByteArray) (w : World) (hS : Hid (S = ⟨l.toArray⟩)) (hn : Hid (l.length = n)) (hl : n ≤ 100) (hd : ∀ b ∈ l,48 ≤ b.toNat ∧ b.toNat ≤ 57) (hv : valD l ≤ 9223372036854775807) :
  Calls Tryz.prog 52 #[.string S] w fun e w' => e = .returned (.int .i64 (valD l : Int)) ∧ w = w' := by
 have hsz : S.size = n := by rw [hS.out,← hn.out]; simp [ByteArray.size]
 go_enter Tryz.func52,Tryz.ntmps52
 go_wp2
 go_loop [3,4] (fun x i => ∃ (k p : Nat),k ≤ n ∧ i = .int .i64 k ∧ x = .int .i64 (p : Int) ∧ Hid (p = valD (l.take k))) (fun _ i => n - (intOf i).toNat)
 case atStart => exact ⟨0,0,Nat.zero_le _,rfl,rfl,rfl⟩
 case round =>
  obtain ⟨k,p,hk,rfl,rfl,HP⟩ := hrel
  by_cases hlt : k < n
  ·have hlt' : k < l.length := by rw [hn.out]; exact hlt
   have hkI : (k : Int) < (n : Int) := by omega
   have hk0 : (0 : Int) ≤ (k : Int) := by omega
   have hnx := valD_next hlt'
   have hle := valD_take l (k + 1)
   rw [hnx,← HP.out] at hle
   have hgk := bgetK hS.out k
   have hg0 := bgetK hS.out 0
   have hdk := hd _ (getD_mem hlt')
   have hd0 := hd _ (getD_mem (show 0 < l.length by omega))
   have HNX : Hid (p * 10 + ((l.getD k 0).toNat - 48) = valD (l.take (k + 1))) := by show _ = _; rw [hnx,← HP.out]
   clear hnx
   generalize l.getD k 0 = zk at *
   generalize l.getD 0 0 = z0 at *
   have b1 : ((zk.toNat : Int) == 45) = false := by rw [beq_eq_false_iff_ne]; omega
   have b2 : ((z0.toNat : Int) == 45) = false := by rw [beq_eq_false_iff_ne]; omega
   obtain ⟨d,hdd⟩ : ∃ d : Nat,zk.toNat = 48 + d := ⟨zk.toNat - 48,by omega⟩
   have hdI : (zk.toNat : Int) = 48 + (d : Int) := by omega
   rw [hdI] at b1
   have hbd : 10 * (p : Int) + (d : Int) ≤ 9223372036854775807 := by omega
   have hd9 : d ≤ 9 := by omega
   have HD : Hid (zk.toNat = 48 + d) := hdd
   clear hdd hdk hd0 hle
   go_wp2
   go_round
   case rel => exact ⟨k + 1,p * 10 + d,by omega,by go_num,val_i64 (by omega),by show _ = _; rw [← HNX.out,HD.out]; omega⟩
   case measure => simp [intOf]; omega
  ·have hkn : k = n := by omega
   subst hkn
   have hkI : ¬ (k : Int) < (k : Int) := by omega
   have HV : Hid (p = valD l) := by show _ = _; rw [HP.out,List.take_of_length_le (by rw [hn.out]; exact Nat.le_refl _)]
   go_wp2
   go_ret
   exact ⟨ret_i64 (by rw [HV.out]),rfl⟩
set_option maxHeartbeats 1000000 in
theorem whole_neg (l : List UInt8) (n : Nat) (S : ByteArray) (w : World) (hS : Hid (S = ⟨(45 :: l).toArray⟩)) (hn : Hid (l.length = n)) (hl : n ≤ 100) (hd : ∀ b ∈ l,48 ≤ b.toNat ∧ b.toNat ≤ 57) (hv : valD l ≤ 9223372036854775808) :
  Calls Tryz.prog 52 #[.string S] w fun e w' => e = .returned (.int .i64 (-(valD l : Int))) ∧ w = w' := by
 have hsz : S.size = n + 1 := by rw [hS.out,← hn.out]; simp [ByteArray.size]
 have hg0 : ∀ h : 0 < S.size,S[0]'h = 45 := fun h => bgetK hS.out 0 h
 go_enter Tryz.func52,Tryz.ntmps52
 go_wp2
 go_loop [3,4] (fun x i => ∃ (k p : Nat),k ≤ n + 1 ∧ i = .int .i64 k ∧ x = .int .i64 (-(p : Int)) ∧ Hid (p = valD (l.take (k - 1)))) (fun _ i => n + 1 - (intOf i).toNat)
 case atStart => exact ⟨0,0,Nat.zero_le _,rfl,rfl,rfl⟩
 case round =>
  obtain ⟨k,p,hk,rfl,rfl,HP⟩ := hrel
  by_cases hk0 : k = 0
  ·subst hk0
   have HP0 : Hid (p = 0) := HP
   go_wp2
   go_round
   case rel => exact ⟨1,p,by omega,by go_num,rfl,HP0⟩
   case measure => simp [intOf]
  ·obtain ⟨q,rfl⟩ : ∃ q,k = q + 1 := ⟨k - 1,by omega⟩
   rw [show q + 1 - 1 = q from by omega] at HP
   by_cases hlt : q < n
   ·have hlt' : q < l.length := by rw [hn.out]; exact hlt
    have hnx := valD_next hlt'
    have hle := valD_take l (q + 1)
    rw [hnx,← HP.out] at hle
    have hgk : ∀ h : q + 1 < S.size,S[q + 1]'h = l.getD q 0 := fun h => by rw [bgetK hS.out (q + 1) h]; rfl
    have hdk := hd _ (getD_mem hlt')
    have HNX : Hid (p * 10 + ((l.getD q 0).toNat - 48) = valD (l.take (q + 1))) := by show _ = _; rw [hnx,← HP.out]
    clear hnx
    generalize l.getD q 0 = zk at *
    have b1 : ((zk.toNat : Int) == 45) = false := by rw [beq_eq_false_iff_ne]; omega
    obtain ⟨d,hdd⟩ : ∃ d : Nat,zk.toNat = 48 + d := ⟨zk.toNat - 48,by omega⟩
    have hdI : (zk.toNat : Int) = 48 + (d : Int) := by omega
    rw [hdI] at b1
    have hbd : 10 * (p : Int) + (d : Int) ≤ 9223372036854775808 := by omega
    have hd9 : d ≤ 9 := by omega
    have HD : Hid (zk.toNat = 48 + d) := hdd
    have hkI : ((q + 1 : Nat) : Int) = (q : Int) + 1 := by omega
    rw [hkI]
    clear hdd hdk hle
    go_wp2
    go_round
    case rel => exact ⟨q + 2,p * 10 + d,by omega,by go_num,val_i64 (by omega),by show _ = _; rw [show q + 2 - 1 = q + 1 from by omega,← HNX.out,HD.out]; omega⟩
    case measure => simp [intOf]; omega
   ·have hkn : q = n := by omega
    subst hkn
    have hkI : ((q + 1 : Nat) : Int) = (q : Int) + 1 := by omega
    have hkJ : ¬ ((q : Int) + 1) < ((q : Int) + 1) := by omega
    have HV : Hid (p = valD l) := by show _ = _; rw [HP.out,List.take_of_length_le (by rw [hn.out]; exact Nat.le_refl _)]
    rw [hkI]
    go_wp2
    go_ret
    exact ⟨ret_i64 (by rw [HV.out]),rfl⟩
theorem kwhole_any (v : Int) (S : ByteArray) (w : World) (hS : Hid (S = ⟨(Lib.itoa v).toArray⟩)) (h0 : -9223372036854775808 ≤ v) (h1 : v ≤ 9223372036854775807) :
  Calls Tryz.prog 52 #[.string S] w fun e w' => e = .returned (.int .i64 v) ∧ w = w' := by
 have hlen := Lib.itoa_length_le v h0 h1
 by_cases hv : v < 0
 ·have hi : Lib.itoa v = 45 :: Lib.decDigits v.natAbs := by rw [Lib.itoa,if_pos hv]
  rw [hi] at hS hlen
  obtain ⟨d1,d2⟩ := decDigits_val v.natAbs
  have C := whole_neg (Lib.decDigits v.natAbs) _ S w hS (hid rfl) (by simp at hlen; omega) d2 (by rw [d1]; omega)
  rw [d1] at C
  refine C.mono fun e w' ⟨h,h'⟩ => ⟨?_,h'⟩
  rw [h]
  exact ret_i64 (by omega)
 ·have hi : Lib.itoa v = Lib.decDigits v.toNat := by rw [Lib.itoa,if_neg hv]
  rw [hi] at hS hlen
  obtain ⟨d1,d2⟩ := decDigits_val v.toNat
  have C := whole_pos (Lib.decDigits v.toNat) _ S w hS (hid rfl) (by omega) d2 (by rw [d1]; omega)
  rw [d1] at C
  refine C.mono fun e w' ⟨h,h'⟩ => ⟨?_,h'⟩
  rw [h]
  exact ret_i64 (by omega)
theorem itoa_signs (v : Int) : Lib.itoa v ≠ [] ∧ ∀ b ∈ Lib.itoa v,b.toNat = 45 ∨ (48 ≤ b.toNat ∧ b.toNat ≤ 57) := by
 have hne : ∀ u,Lib.decDigits u ≠ [] := by
  intro u h
  rw [Lib.decDigits] at h
  split at h <;> simp at h
 unfold Lib.itoa
 split
 ·refine ⟨by simp,fun b hb => ?_⟩
  rcases List.mem_cons.1 hb with rfl | hb
  ·exact .inl rfl
  ·exact .inr ((decDigits_val _).2 b hb)
 ·exact ⟨hne _,fun b hb => .inr ((decDigits_val _).2 b hb)⟩
theorem drop_cons {L r : List UInt8} {i : Nat} {x : UInt8} (h : L.drop i = x :: r) : L.getD i 0 = x ∧ L.drop (i + 1) = r ∧ i < L.length := by
 have hi : i < L.length := by
  have := congrArg List.length h
  simp at this
  omega
 refine ⟨?_,?_,hi⟩
 ·have : (L.drop i)[0]? = some x := by rw [h]; rfl
  rw [List.getElem?_drop,Nat.add_zero] at this
  simp [List.getD,this]
 ·rw [← List.drop_drop,h]
  rfl
theorem drop_nil {L : List UInt8} {i : Nat} (h : L.drop i = []) : L.length ≤ i := by
 have := congrArg List.length h
 simp at this
 omega
def Ends (post : List UInt8) : Prop := post = [] ∨ (∃ r,post = 44 :: r) ∨ ∃ r,post = 125 :: r
end Go.Proofs.YtpijkgbafjccaaaGreatDoor
