/-
  
-/
import Derived.Test.YtbanfbpfapjfcaaGreatDoorGMKHouse
namespace Go.Proofs.YtbanfbpfapjfcaaGreatDoor
open Go.RowKit
set_option maxRecDepth 100000
set_option maxHeartbeats 2000000 in
theorem once_any (q : Bool) (skew seed again : Int) (w : World) (h1 : -9223372036854775808 ≤ skew ∧ skew ≤ 9223372036854775807) (_h2 : -9223372036854775808 ≤ seed ∧ seed ≤ 9223372036854775807) (h3 : -9223372036854775808 ≤ again ∧ again ≤ 9223372036854775807) (htab : TabHere w) :
  Calls Tryz.prog 10 #[.bool q,.int .i64 skew,.int .i64 seed,.int .i64 again] w fun e w' => e = .returned (.bool true) ∧ Below w.heap.size w w' := by
 have HH := hid (khouse_ok q skew seed 5000 5000 5000 w h1.1 h1.2 (by decide) (by decide) (by decide) (by decide) (by decide) (by decide))
 have HTab := hid htab
 have HAg := hid h3
 have hpl := pickN_lt skew 301 (by decide)
 obtain ⟨sk,hsk⟩ : ∃ sk,(pickN skew 301 : Int) = sk := ⟨_,rfl⟩
 rw [hsk] at HH
 have hsk0 : 0 ≤ sk := by omega
 have hsk1 : sk ≤ 300 := by omega
 clear h1 h3 htab hpl hsk
 go_enter Tryz.func10,Tryz.ntmps10
 go_wp2_with fail
 refine HH.out.mono ?_
 clear HH
 rintro e w1 ⟨p0,p1,av,cv,ds,g,lo,hi,rfl,hd,hS,hl,hX,hlo,hhi,hg⟩
 have HD := hid hd
 have HL := hid hl
 have HW1 := hid (And.intro hS (And.intro hlo (And.intro hhi hg)))
 clear hd hS hl hX hlo hhi hg
 go_upto_region 4 with fail
 refine wp_genK (fun V => KB w lo hi w1.heap.size #[.pointer p0,.pointer p1,.int .i64 sk,.slice av 480 cv,.int .i64 5000,.int .i64 5000,.int .i64 5000] V ∧ KS q lo hi V g ⟨sk,bO,[],ds⟩) ⟨⟨(gb_below HW1.out.2.2.2).trans ((gb_below (World.grownBy_alloc w1 _ none)).mono HW1.out.2.2.2.size),Nat.le_trans HW1.out.2.2.1 (World.grownBy_alloc w1 _ none).size,Blk.new w1 _ _,HW1.out.2.2.1,HW1.out.2.1,Nat.le_of_lt (Nat.lt_of_le_of_lt HW1.out.1.1 HW1.out.1.2.1)⟩,HW1.out.1.gb (World.grownBy_alloc w1 _ none)⟩ ?_
 rintro V ⟨hK,hS⟩
 have HK := hid hK
 have HS := hid hS
 have HVh := hid hK.size
 have y0 : V.cell? ⟨w1.heap.size,0,none⟩ = some (.pointer p0) := hK.house.cell 0
 have y1 : V.cell? ⟨w1.heap.size,1,none⟩ = some (.pointer p1) := hK.house.cell 1
 clear hK hS
 obtain ⟨k0,hk0⟩ : ∃ k,drawAt ds 0 = k := ⟨_,rfl⟩
 obtain ⟨k1,hk1⟩ : ∃ k,drawAt ds 1 = k := ⟨_,rfl⟩
 obtain ⟨k2,hk2⟩ : ∃ k,drawAt ds 2 = k := ⟨_,rfl⟩
 have HA := hid (once_first sk [] ds hsk0 hsk1 (by rw [HL.out]; decide))
 rw [hk0,hk1,hk2] at HA
 clear hk0 hk1 hk2
 have HM := hid (bO_ok sk [] ds hsk0 hsk1 (by simp))
 have HLq : Hid ((firstReq nAl nTgs 1 0 0 0 0).length ≤ 300) := first_len _ _ _ _ _ _ _ (by decide) (by decide)
 have HLr : Hid ((giveBox 11 (oT k0) eT 1 1 1000002 3 k1 k2).length ≤ 900) := give_len _ _ _ _ _ _ _ _ _ len_al (by decide)
 have HNow : Hid (In64 1000) := ⟨by decide,by decide⟩
 have HF1 := hid (first_al lo hi)
 have HC1 := hid (came_al k0 k1 k2)
 go_cut [11,10] (fun p okv wx => ∃ (cb : Nat) (ao : Option Addr) (m c : Nat),p = .pointer (some ⟨cb,0,none⟩) ∧ okv = .bool true ∧ hi ≤ cb ∧ Blk wx cb (cameC (.slice ao m c) (oT k0) eT 1) ∧ KX lo hi wx (.slice ao m c) (ticketBox (oT k0) eT k1) ∧ KS q lo hi wx g ⟨sk,bO,[],ds.drop 24⟩ ∧ KB w lo hi w1.heap.size #[.pointer p0,.pointer p1,.int .i64 sk,.slice av 480 cv,.int .i64 5000,.int .i64 5000,.int .i64 5000] wx)
 case first =>
  have HSk : Hid (∀ W,FR lo hi V W → (fun w' => w'.cell? ⟨w1.heap.size,0,none⟩ = some (.pointer p0) ∧ w'.cell? ⟨w1.heap.size,1,none⟩ = some (.pointer p1)) W) := fun W k => ⟨(HK.out.fr k).house.cell 0,(HK.out.fr k).house.cell 1⟩
  go_region_held3 (fun w' => w'.cell? ⟨w1.heap.size,0,none⟩ = some (.pointer p0) ∧ w'.cell? ⟨w1.heap.size,1,none⟩ = some (.pointer p1)) (exact HSk.out _ (by (repeat first | with_reducible exact F3.out | with_reducible exact F2.out | with_reducible exact F1.out | with_reducible exact FR.refl _ _ _ | with_reducible refine FR.alloc ?_ _ | with_reducible refine FR.drew ?_ | with_reducible refine FR.stores ?_ _ _ (by first | exact Nat.le_refl _ | exact F1.out.size | exact F2.out.size | exact F3.out.size)))) (first
   | (go_at_call 18; refine (HF1.out _ (Nat.le_trans HVh.out (FR.size (lo := lo) (hi := hi) (a := V) (by (repeat first | with_reducible exact F3.out | with_reducible exact F2.out | with_reducible exact F1.out | with_reducible exact FR.refl _ _ _ | with_reducible refine FR.alloc ?_ _ | with_reducible refine FR.drew ?_ | with_reducible refine FR.stores ?_ _ _ (by first | exact Nat.le_refl _ | exact F1.out.size | exact F2.out.size | exact F3.out.size)))))).mono ?_; rintro e w5 ⟨a5,m5,c5,rfl,x5,g5⟩; have G1 : Hid (V.grownBy w5 none) := gb_trans (by (repeat first | with_reducible exact World.grownBy.refl _ _ | with_reducible refine gb_alloc ?_ _ | with_reducible refine gb_drew1 ?_)) g5; have F1 : Hid (FR lo hi V w5) := FR.gb G1.out; have X5 := hid x5; (first | (have HZ1 := hid (Blk.grown (Blk.drew (Blk.new V zeroCame 44)) g5 (by simp))) | skip); clear x5 g5)
   | (go_at_call 17; refine (kans2 q lo hi g p0 p1 ⟨sk,bO,[],ds⟩ ⟨sk,bO,[],ds.drop 24⟩ 1000 (firstReq nAl nTgs 1 0 0 0 0) (giveBox 11 (oT k0) eT 1 1 1000002 3 k1 k2) (.slice a5 m5 c5) _ HD.out HA.out (HS.out.gb (by (repeat first | with_reducible exact G1.out | with_reducible exact World.grownBy.refl _ _ | with_reducible refine gb_alloc ?_ _ | with_reducible refine gb_drew1 ?_))) HM.out (X5.out.fr (FR.gb (by (repeat first | with_reducible exact World.grownBy.refl _ _ | with_reducible refine gb_alloc ?_ _ | with_reducible refine gb_drew1 ?_)))) HLq.out HLr.out HNow.out (Nat.le_trans HVh.out (FR.size (lo := lo) (hi := hi) (a := V) (by (repeat first | with_reducible exact F3.out | with_reducible exact F2.out | with_reducible exact F1.out | with_reducible exact FR.refl _ _ _ | with_reducible refine FR.alloc ?_ _ | with_reducible refine FR.drew ?_ | with_reducible refine FR.stores ?_ _ _ (by first | exact Nat.le_refl _ | exact F1.out.size | exact F2.out.size | exact F3.out.size)))))).mono ?_; rintro e w6 ⟨a6,m6,c6,rfl,x6,s6,f6⟩; have F2 : Hid (FR lo hi V w6) := FR.trans (by (repeat first | with_reducible exact F3.out | with_reducible exact F2.out | with_reducible exact F1.out | with_reducible exact FR.refl _ _ _ | with_reducible refine FR.alloc ?_ _ | with_reducible refine FR.drew ?_ | with_reducible refine FR.stores ?_ _ _ (by first | exact Nat.le_refl _ | exact F1.out.size | exact F2.out.size | exact F3.out.size))) f6; have X6 := hid (And.intro x6 s6); (first | (have HZ2 := hid (Blk.fr (lo := lo) (hi := hi) HZ1.out f6 (.inr HVh.out))) | (have HZ2 := hid (Blk.fr (lo := lo) (hi := hi) (Blk.new w5 zeroCame 44) f6 (.inr (Nat.le_trans HVh.out F1.out.size)))) | skip); clear x6 s6 f6)
   | (go_at_call 19; refine (HC1.out _ (.slice a6 m6 c6) (X6.out.1.fr (FR.gb (by (repeat first | with_reducible exact World.grownBy.refl _ _ | with_reducible refine gb_alloc ?_ _ | with_reducible refine gb_drew1 ?_)))).1 (KB.tab (HK.out.fr (by (repeat first | with_reducible exact F3.out | with_reducible exact F2.out | with_reducible exact F1.out | with_reducible exact FR.refl _ _ _ | with_reducible refine FR.alloc ?_ _ | with_reducible refine FR.drew ?_ | with_reducible refine FR.stores ?_ _ _ (by first | exact Nat.le_refl _ | exact F1.out.size | exact F2.out.size | exact F3.out.size)))) HTab.out)).mono ?_; rintro e w7 ⟨cs,ao,m7,c7,rfl,hcs,x7,g7⟩; have HCs := hid hcs; clear hcs; have S7 : Hid (KS q lo hi w7 g ⟨sk,bO,[],ds.drop 24⟩) := X6.out.2.gb (gb_trans (by (repeat first | with_reducible exact World.grownBy.refl _ _ | with_reducible refine gb_alloc ?_ _ | with_reducible refine gb_drew1 ?_)) g7); have X7 : Hid (KX lo hi w7 (.slice ao m7 c7) (ticketBox (oT k0) eT k1)) := KX.made x7 (Nat.le_trans HVh.out (FR.size (lo := lo) (hi := hi) (a := V) (by (repeat first | with_reducible exact F3.out | with_reducible exact F2.out | with_reducible exact F1.out | with_reducible exact FR.refl _ _ _ | with_reducible refine FR.alloc ?_ _ | with_reducible refine FR.drew ?_ | with_reducible refine FR.stores ?_ _ _ (by first | exact Nat.le_refl _ | exact F1.out.size | exact F2.out.size | exact F3.out.size))))); (first | (have HZ3 := hid (Blk.grown HZ2.out g7 (by simp)); have HNe := hid (place_ne x7 (.inl HZ2.out.lt))) | (have HZ3 := hid (Blk.grown (Blk.new w6 zeroCame 44) g7 (by simp)); have HNe := hid (place_ne x7 (cb := w6.heap.size) (.inl (by rw [World.size_alloc]; omega)))) | (have HZ3 := hid (Blk.new w7 zeroCame 44); have HNe := hid (place_ne x7 (cb := w7.heap.size) (.inr (Nat.le_refl _))))); have hsz := came_size HCs.out; have hst := run_store_live (P := Tryz.prog) cs.toList (came_live HZ3.out) (by rw [Array.length_toList,hsz]; exact Nat.le_refl _) (came_one HCs.out); have F3 : Hid (FR lo hi V w7) := FR.trans (by (repeat first | with_reducible exact F3.out | with_reducible exact F2.out | with_reducible exact F1.out | with_reducible exact FR.refl _ _ _ | with_reducible refine FR.alloc ?_ _ | with_reducible refine FR.drew ?_ | with_reducible refine FR.stores ?_ _ _ (by first | exact Nat.le_refl _ | exact F1.out.size | exact F2.out.size | exact F3.out.size))) (FR.gb g7); clear x7 g7))
  all_goals go_wp2
  all_goals go_meet
  all_goals first
   | exact ⟨_,ao,m7,c7,rfl,rfl,(by first | exact HVh.out | exact Nat.le_trans HVh.out F1.out.size | exact Nat.le_trans HVh.out F2.out.size | exact Nat.le_trans HVh.out F3.out.size),came_put HZ3.out HCs.out,X7.out.cf (cfs w7 _ _) (fun b off n c e o e2 => HNe.out b off n c e e2),S7.out.cf (cfs w7 _ _) (fun b y e => .inr (by rw [e]; first | exact HVh.out | exact Nat.le_trans HVh.out F1.out.size | exact Nat.le_trans HVh.out F2.out.size | exact Nat.le_trans HVh.out F3.out.size)),HK.out.fr (by (repeat first | with_reducible exact F3.out | with_reducible exact F2.out | with_reducible exact F1.out | with_reducible exact FR.refl _ _ _ | with_reducible refine FR.alloc ?_ _ | with_reducible refine FR.drew ?_ | with_reducible refine FR.stores ?_ _ _ (by first | exact Nat.le_refl _ | exact F1.out.size | exact F2.out.size | exact F3.out.size)))⟩
   | exact ⟨_,ao,m7,c7,rfl,rfl,(by first | exact HVh.out | exact Nat.le_trans HVh.out F1.out.size | exact Nat.le_trans HVh.out F2.out.size | exact Nat.le_trans HVh.out F3.out.size),came_put HZ3.out HCs.out,(X7.out.fr (FR.gb (gb_alloc0 w7 _))).cf (cfs _ _ _) (fun b off n c e o e2 => HNe.out b off n c e e2),(S7.out.gb (gb_alloc0 w7 _)).cf (cfs _ _ _) (fun b y e => .inr (by rw [e]; exact Nat.le_trans HVh.out F3.out.size)),HK.out.fr (by (repeat first | with_reducible exact F3.out | with_reducible exact F2.out | with_reducible exact F1.out | with_reducible exact FR.refl _ _ _ | with_reducible refine FR.alloc ?_ _ | with_reducible refine FR.drew ?_ | with_reducible refine FR.stores ?_ _ _ (by first | exact Nat.le_refl _ | exact F1.out.size | exact F2.out.size | exact F3.out.size)))⟩
 case rest =>
  obtain ⟨cb,ao,m,c,rfl,rfl,hcb,hB,hX,hS,hK⟩ := hcut
  have HCbh := hid hcb
  have HB := hid hB
  have HX := hid hX
  have HS1 := hid hS
  have HK1 := hid hK
  have e0 : wc.cell? ⟨cb,0,none⟩ = some (.slice ao m c) := hB.cell 0
  have e6 : wc.cell? ⟨cb,6,none⟩ = some (.int .u64 (k0.toNat : Int)) := hB.cell 6
  clear hcb hB hX hS hK HA HM HLq HLr HF1 HC1 HK HS HVh y0 y1 HW1
  have HN1 := hid (next_al lo hi k0 k1 7 7 (.slice ao m c) wc HK1.out.size HX.out rfl (by decide))
  go_wp2_with fail
  refine HN1.out.mono ?_
  clear HN1
  rintro e w2 ⟨a2,m2,c2,rfl,x2,g2⟩
  have HB2 := hid (HB.out.grown g2 (by simp))
  have HX2 := hid (HX.out.fr (FR.gb g2))
  have HQ2 := hid x2
  have HS2 := hid (HS1.out.gb g2)
  have HK2 := hid (HK1.out.fr (FR.gb g2))
  have e0 : w2.cell? ⟨cb,0,none⟩ = some (.slice ao m c) := HB2.out.cell 0
  have e6 : w2.cell? ⟨cb,6,none⟩ = some (.int .u64 (k0.toNat : Int)) := HB2.out.cell 6
  clear x2 g2 HB HX HS1 HK1
  have HN1 := hid (next_al lo hi k0 k1 8 8 (.slice ao m c) w2 HK2.out.size HX2.out rfl (by decide))
  go_wp2_with fail
  refine HN1.out.mono ?_
  clear HN1
  rintro e V ⟨a3,m3,c3,rfl,x3,g3⟩
  have HCb := hid (HB2.out.grown g3 (by simp))
  have HQ := hid (HQ2.out.fr (FR.gb g3))
  have HP := hid x3
  have HS := hid (HS2.out.gb g3)
  have HK := hid (HK2.out.fr (FR.gb g3))
  have HVh := hid HK.out.size
  have e6 : V.cell? ⟨cb,6,none⟩ = some (.int .u64 (k0.toNat : Int)) := HCb.out.cell 6
  have y0 : V.cell? ⟨w1.heap.size,0,none⟩ = some (.pointer p0) := HK.out.house.cell 0
  have y1 : V.cell? ⟨w1.heap.size,1,none⟩ = some (.pointer p1) := HK.out.house.cell 1
  clear x3 g3 HB2 HX2 HQ2 HS2 HK2
  obtain ⟨d2,hd2⟩ : ∃ d,ds.drop 24 = d := ⟨_,rfl⟩
  have hdl : d2.length = 456 := by rw [← hd2,List.length_drop,HL.out]
  rw [hd2] at HS
  obtain ⟨j0,hj0⟩ : ∃ k,drawAt d2 0 = k := ⟨_,rfl⟩
  obtain ⟨j1,hj1⟩ : ∃ k,drawAt d2 1 = k := ⟨_,rfl⟩
  obtain ⟨j2,hj2⟩ : ∃ k,drawAt d2 2 = k := ⟨_,rfl⟩
  have HA := hid (once_grant sk [] d2 k0 k1 7 1000 ⟨by decide,by decide⟩ (by decide) (by decide) hsk0 hsk1 (by omega) rfl (by simp) (by simp) (by omega))
  rw [hj0,hj1,hj2,List.nil_append] at HA
  have HDl := hid hdl
  clear hj0 hj1 hj2 hd2 hdl
  have HM := hid (bO_ok sk [] d2 hsk0 hsk1 (by simp))
  have HLq : Hid ((nextReq (ticketBox (oT k0) eT k1) (sealedProof (oT k0) 7 1000) nWeb 2 0 0).length ≤ 300) := nextq_len _ _ _ _ _ _ _ _ _ len_al (by decide) (by decide)
  have HLr : Hid ((giveBox 13 ⟨0,j0,nAl,1000,1000,6000,0⟩ eW 2 0 k0 5 j1 j2).length ≤ 900) := give_len _ _ _ _ _ _ _ _ _ len_al (by decide)
  have HC1 := hid (came_web k0 j0 j1 j2 1000 ⟨by decide,by decide⟩)
  go_upto_region 9 with fail
  go_cut [10] (fun okv wx => okv = .bool true ∧ KS q lo hi wx g ⟨sk,bO,[⟨nAl,1000,((7 : UInt64).toNat : Int)⟩],d2.drop 24⟩ ∧ FR lo hi V wx)
  case first =>
   obtain ⟨a5,m5,c5,h5⟩ : ∃ a5 m5 c5,Hid ((a5 : Option Addr) = a2 ∧ (m5 : Nat) = m2 ∧ (c5 : Nat) = c2) := ⟨_,_,_,hid ⟨rfl,rfl,rfl⟩⟩
   obtain ⟨rfl,rfl,rfl⟩ := h5.out
   have X5 := HQ
   clear h5
   have HSk : Hid (∀ W,FR lo hi V W → (fun w' => w'.cell? ⟨w1.heap.size,0,none⟩ = some (.pointer p0) ∧ w'.cell? ⟨w1.heap.size,1,none⟩ = some (.pointer p1) ∧ w'.cell? ⟨cb,6,none⟩ = some (.int .u64 (k0.toNat : Int))) W) := fun W k => ⟨(HK.out.fr k).house.cell 0,(HK.out.fr k).house.cell 1,(HCb.out.fr k (.inr HCbh.out)).cell 6⟩
   go_region_held3 (fun w' => w'.cell? ⟨w1.heap.size,0,none⟩ = some (.pointer p0) ∧ w'.cell? ⟨w1.heap.size,1,none⟩ = some (.pointer p1) ∧ w'.cell? ⟨cb,6,none⟩ = some (.int .u64 (k0.toNat : Int))) (exact HSk.out _ (by (repeat first | with_reducible exact F3.out | with_reducible exact F2.out | with_reducible exact F1.out | with_reducible exact FR.refl _ _ _ | with_reducible refine FR.alloc ?_ _ | with_reducible refine FR.drew ?_ | with_reducible refine FR.stores ?_ _ _ (by first | exact Nat.le_refl _ | exact F1.out.size | exact F2.out.size | exact F3.out.size)))) (first
    | (go_at_call 17; refine (kans2 q lo hi g p0 p1 ⟨sk,bO,[],d2⟩ ⟨sk,bO,[⟨nAl,1000,((7 : UInt64).toNat : Int)⟩],d2.drop 24⟩ 1000 (nextReq (ticketBox (oT k0) eT k1) (sealedProof (oT k0) 7 1000) nWeb 2 0 0) (giveBox 13 ⟨0,j0,nAl,1000,1000,6000,0⟩ eW 2 0 k0 5 j1 j2) (.slice a5 m5 c5) _ HD.out HA.out (HS.out.gb (by (repeat first | with_reducible exact G1.out | with_reducible exact World.grownBy.refl _ _ | with_reducible refine gb_alloc ?_ _ | with_reducible refine gb_drew1 ?_))) HM.out (X5.out.fr (FR.gb (by (repeat first | with_reducible exact World.grownBy.refl _ _ | with_reducible refine gb_alloc ?_ _ | with_reducible refine gb_drew1 ?_)))) HLq.out HLr.out HNow.out (Nat.le_trans HVh.out (FR.size (lo := lo) (hi := hi) (a := V) (by (repeat first | with_reducible exact F3.out | with_reducible exact F2.out | with_reducible exact F1.out | with_reducible exact FR.refl _ _ _ | with_reducible refine FR.alloc ?_ _ | with_reducible refine FR.drew ?_ | with_reducible refine FR.stores ?_ _ _ (by first | exact Nat.le_refl _ | exact F1.out.size | exact F2.out.size | exact F3.out.size)))))).mono ?_; rintro e w6 ⟨a6,m6,c6,rfl,x6,s6,f6⟩; have F2 : Hid (FR lo hi V w6) := FR.trans (by (repeat first | with_reducible exact F3.out | with_reducible exact F2.out | with_reducible exact F1.out | with_reducible exact FR.refl _ _ _ | with_reducible refine FR.alloc ?_ _ | with_reducible refine FR.drew ?_ | with_reducible refine FR.stores ?_ _ _ (by first | exact Nat.le_refl _ | exact F1.out.size | exact F2.out.size | exact F3.out.size))) f6; have X6 := hid (And.intro x6 s6); clear x6 s6 f6)
    | (go_at_call 19; refine (HC1.out _ (.slice a6 m6 c6) (X6.out.1.fr (FR.gb (by (repeat first | with_reducible exact World.grownBy.refl _ _ | with_reducible refine gb_alloc ?_ _ | with_reducible refine gb_drew1 ?_)))).1 (KB.tab (HK.out.fr (by (repeat first | with_reducible exact F3.out | with_reducible exact F2.out | with_reducible exact F1.out | with_reducible exact FR.refl _ _ _ | with_reducible refine FR.alloc ?_ _ | with_reducible refine FR.drew ?_ | with_reducible refine FR.stores ?_ _ _ (by first | exact Nat.le_refl _ | exact F1.out.size | exact F2.out.size | exact F3.out.size)))) HTab.out)).mono ?_; rintro e w7 ⟨cs,ao,m7,c7,rfl,hcs,x7,g7⟩; have HCs := hid hcs; clear hcs; have S7 : Hid (KS q lo hi w7 g ⟨sk,bO,[⟨nAl,1000,((7 : UInt64).toNat : Int)⟩],d2.drop 24⟩) := X6.out.2.gb (gb_trans (by (repeat first | with_reducible exact World.grownBy.refl _ _ | with_reducible refine gb_alloc ?_ _ | with_reducible refine gb_drew1 ?_)) g7); have X7 : Hid (KX lo hi w7 (.slice ao m7 c7) (ticketBox ⟨0,j0,nAl,1000,1000,6000,0⟩ eW j1)) := KX.made x7 (Nat.le_trans HVh.out (FR.size (lo := lo) (hi := hi) (a := V) (by (repeat first | with_reducible exact F3.out | with_reducible exact F2.out | with_reducible exact F1.out | with_reducible exact FR.refl _ _ _ | with_reducible refine FR.alloc ?_ _ | with_reducible refine FR.drew ?_ | with_reducible refine FR.stores ?_ _ _ (by first | exact Nat.le_refl _ | exact F1.out.size | exact F2.out.size | exact F3.out.size))))); have F3 : Hid (FR lo hi V w7) := FR.trans (by (repeat first | with_reducible exact F3.out | with_reducible exact F2.out | with_reducible exact F1.out | with_reducible exact FR.refl _ _ _ | with_reducible refine FR.alloc ?_ _ | with_reducible refine FR.drew ?_ | with_reducible refine FR.stores ?_ _ _ (by first | exact Nat.le_refl _ | exact F1.out.size | exact F2.out.size | exact F3.out.size))) (FR.gb g7); clear x7 g7))
   all_goals go_wp2
   all_goals go_meet
   all_goals exact ⟨rfl,S7.out,F3.out⟩
  case rest =>
   obtain ⟨rfl,hS,hF⟩ := hcut
   have HS3 := hid hS
   have HK3 := hid (HK.out.fr hF)
   have HQ3 := hid (HQ.out.fr hF)
   have HP3 := hid (HP.out.fr hF)
   have HB3 := hid (HCb.out.fr hF (.inr HCbh.out))
   have s2 : wc.cell? ⟨w1.heap.size,2,none⟩ = some (.int .i64 sk) := HK3.out.house.cell 2
   clear hS hF HS HK HQ HP HCb HVh e0 e6 y0 y1 HA HM HLq HLr HC1
   obtain ⟨N,hN⟩ : ∃ N : Int,2 * sk + 2 = N := ⟨_,rfl⟩
   have hpk := kpick_any again N wc HAg.out (by constructor <;> omega)
   have hpl := pickN_lt again N.toNat (by omega)
   obtain ⟨P,hP⟩ : ∃ P : Int,(pickN again N.toNat : Int) = P := ⟨_,rfl⟩
   rw [hP] at hpk
   have hP0 : 0 ≤ P := by omega
   have hP1 : P ≤ 2 * sk + 1 := by omega
   have HPk : Hid (∀ X : Int,X = 2 * sk + 2 → Calls Tryz.prog 14 #[.int .i64 again,.int .i64 X] wc fun e w' => e = .returned (.int .i64 P) ∧ wc = w') := fun X h => by rw [h,hN]; exact hpk
   clear hpk hpl hP hN
   go_wp2_with fail
   refine (HPk.out _ (by first | rfl | (simp only [IntKind.wrap_i64]; omega))).mono ?_
   rintro e w4 ⟨rfl,rfl⟩
   clear HPk s2
   have y0 : wc.cell? ⟨w1.heap.size,0,none⟩ = some (.pointer p0) := HK3.out.house.cell 0
   have y1 : wc.cell? ⟨w1.heap.size,1,none⟩ = some (.pointer p1) := HK3.out.house.cell 1
   have HSt := hid (kstate2 q lo hi g p0 p1 ⟨sk,bO,[⟨nAl,1000,((7 : UInt64).toNat : Int)⟩],d2.drop 24⟩ 1 432 wc HD.out HS3.out rfl (by rw [List.length_drop,HDl.out]; rfl))
   go_wp2_with fail
   refine HSt.out.mono ?_
   clear HSt
   rintro e V ⟨b1,n1,x1,b2,n2,x2,rfl,g4⟩
   have HS := hid (HS3.out.gb g4)
   have HK := hid (HK3.out.fr (FR.gb g4))
   have HQ := hid (HQ3.out.fr (FR.gb g4))
   have HP := hid (HP3.out.fr (FR.gb g4))
   have HCb := hid (HB3.out.grown g4 (by simp))
   have y0 : V.cell? ⟨w1.heap.size,0,none⟩ = some (.pointer p0) := HK.out.house.cell 0
   have y1 : V.cell? ⟨w1.heap.size,1,none⟩ = some (.pointer p1) := HK.out.house.cell 1
   have y2 : V.cell? ⟨w1.heap.size,2,none⟩ = some (.int .i64 sk) := HK.out.house.cell 2
   clear g4 HS3 HK3 HQ3 HP3 HB3
   obtain ⟨Nw,hNw⟩ : ∃ n : Int,1000 + P = n := ⟨_,rfl⟩
   rw [hNw]
   have hN0 : 1000 ≤ Nw := by omega
   have hN1 : Nw ≤ 1001 + 2 * sk := by omega
   clear hP0 hP1 hNw
   have hf3 := fld3 b1 b2 n1 x1 n2 x2 V 1 432
   have HLq : Hid ((nextReq (ticketBox (oT k0) eT k1) (sealedProof (oT k0) 7 1000) nWeb 2 0 0).length ≤ 300) := nextq_len _ _ _ _ _ _ _ _ _ len_al (by decide) (by decide)
   have HM := hid (bO_ok sk [⟨nAl,1000,((7 : UInt64).toNat : Int)⟩] (d2.drop 24) hsk0 hsk1 (by intro y hy; simp only [List.mem_cons,List.not_mem_nil,or_false] at hy; subst hy; exact i64a 1000 rfl))
   have HIn : Hid (In64 Nw) := ⟨by omega,by omega⟩
   by_cases hlate : 1000 + sk < Nw
   ·have HAn := hid (kans2 q lo hi g p0 p1 ⟨sk,bO,[⟨nAl,1000,((7 : UInt64).toNat : Int)⟩],d2.drop 24⟩ ⟨sk,bO,[⟨nAl,1000,((7 : UInt64).toNat : Int)⟩],d2.drop 24⟩ Nw (nextReq (ticketBox (oT k0) eT k1) (sealedProof (oT k0) 7 1000) nWeb 2 0 0) (refusalBox Nw 37) (.slice a2 m2 c2) V HD.out (once_late sk [⟨nAl,1000,((7 : UInt64).toNat : Int)⟩] (d2.drop 24) k0 k1 7 Nw ⟨by decide,by decide⟩ (by omega) (by omega) (by omega)) HS.out HM.out HQ.out HLq.out (refusal_len _ _) HIn.out HK.out.size)
    go_wp2_with fail
    refine HAn.out.mono ?_
    rintro e w6 ⟨a6,m6,c6,rfl,x6,s6,f6⟩
    have HK6 := hid (HK.out.fr f6)
    have HCo := hid (kcode_any Nw 37 (.slice a6 m6 c6) w6 HIn.out ⟨by decide,by decide⟩ x6.1 (HK6.out.tab HTab.out))
    have HS6 := hid s6
    clear x6 s6 f6 HAn
    go_wp2_with fail
    refine HCo.out.mono ?_
    rintro e w7 ⟨rfl,g7⟩
    have HK7 := hid (HK6.out.fr (FR.gb g7))
    have HS7 := hid (HS6.out.gb g7)
    have HSt := hid (kstate2 q lo hi g p0 p1 ⟨sk,bO,[⟨nAl,1000,((7 : UInt64).toNat : Int)⟩],d2.drop 24⟩ 1 432 w7 HD.out HS7.out rfl (by rw [List.length_drop,HDl.out]; rfl))
    have y0 : w7.cell? ⟨w1.heap.size,0,none⟩ = some (.pointer p0) := HK7.out.house.cell 0
    have y1 : w7.cell? ⟨w1.heap.size,1,none⟩ = some (.pointer p1) := HK7.out.house.cell 1
    clear g7 HCo HK6 HS6
    go_wp2_with fail
    refine HSt.out.mono ?_
    rintro e w8 ⟨b3,n3,x3,b4,n4,x4,rfl,g8⟩
    have HK8 := hid (HK7.out.fr (FR.gb g8))
    clear g8 HSt
    go_wp2
    go_ret
    exact ⟨rfl,(HK8.out.fr (FR.gb (gb_alloc0 w8 _))).below⟩
   ·have HAn := hid (kans2 q lo hi g p0 p1 ⟨sk,bO,[⟨nAl,1000,((7 : UInt64).toNat : Int)⟩],d2.drop 24⟩ ⟨sk,bO,[⟨nAl,1000,((7 : UInt64).toNat : Int)⟩],d2.drop 24⟩ Nw (nextReq (ticketBox (oT k0) eT k1) (sealedProof (oT k0) 7 1000) nWeb 2 0 0) (refusalBox Nw 34) (.slice a2 m2 c2) V HD.out (once_again sk (d2.drop 24) k0 k1 7 Nw ⟨by decide,by decide⟩ (by omega) (by omega) (by omega)) HS.out HM.out HQ.out HLq.out (refusal_len _ _) HIn.out HK.out.size)
    have hw : IntKind.i64.wrap (1000 + sk) = 1000 + sk := by rw [IntKind.wrap_i64]; omega
    have hb : decide (1000 + sk < Nw) = false := by simpa using hlate
    have HB0 := hid (And.intro hsk0 (And.intro hsk1 (And.intro hN0 (And.intro hN1 hlate))))
    clear hlate hN0 hN1 hsk0 hsk1
    go_wp2_with fail
    refine HAn.out.mono ?_
    rintro e w6 ⟨a6,m6,c6,rfl,x6,s6,f6⟩
    have HK6 := hid (HK.out.fr f6)
    have HP6 := hid (HP.out.fr f6)
    have HB6 := hid (HCb.out.fr f6 (.inr HCbh.out))
    have HCo := hid (kcode_any Nw 34 (.slice a6 m6 c6) w6 HIn.out ⟨by decide,by decide⟩ x6.1 (HK6.out.tab HTab.out))
    have HS6 := hid s6
    clear x6 s6 f6 HAn HS HK HP HCb HQ y0 y1 y2 hw hb hf3
    go_wp2_with fail
    refine HCo.out.mono ?_
    rintro e w7 ⟨rfl,g7⟩
    have HK7 := hid (HK6.out.fr (FR.gb g7))
    have HP7 := hid (HP6.out.fr (FR.gb g7))
    have HB7 := hid (HB6.out.grown g7 (by simp))
    have HS7 := hid (HS6.out.gb g7)
    have HSt := hid (kstate2 q lo hi g p0 p1 ⟨sk,bO,[⟨nAl,1000,((7 : UInt64).toNat : Int)⟩],d2.drop 24⟩ 1 432 w7 HD.out HS7.out rfl (by rw [List.length_drop,HDl.out]; rfl))
    have y0 : w7.cell? ⟨w1.heap.size,0,none⟩ = some (.pointer p0) := HK7.out.house.cell 0
    have y1 : w7.cell? ⟨w1.heap.size,1,none⟩ = some (.pointer p1) := HK7.out.house.cell 1
    clear g7 HCo HK6 HS6 HP6 HB6
    go_wp2_with fail
    refine HSt.out.mono ?_
    rintro e w8 ⟨b3,n3,x3,b4,n4,x4,rfl,g8⟩
    have HG8 := hid g8
    clear g8 HSt y0 y1
    go_upto_region 21 with fail
    refine wp_genK (fun V => w7.grownBy V none) (gb_alloc HG8.out _) ?_
    rintro V gv
    have HS := hid (HS7.out.gb gv)
    have HK := hid (HK7.out.fr (FR.gb gv))
    have HP := hid (HP7.out.fr (FR.gb gv))
    have HCb := hid (HB7.out.grown gv (by simp))
    have HVh := hid HK.out.size
    have e6 : V.cell? ⟨cb,6,none⟩ = some (.int .u64 (k0.toNat : Int)) := HCb.out.cell 6
    have y0 : V.cell? ⟨w1.heap.size,0,none⟩ = some (.pointer p0) := HK.out.house.cell 0
    have y1 : V.cell? ⟨w1.heap.size,1,none⟩ = some (.pointer p1) := HK.out.house.cell 1
    clear gv HS7 HK7 HP7 HB7 HG8
    obtain ⟨hsk0,hsk1,hN0,hN1,hlate⟩ := HB0.out
    obtain ⟨d3,hd3⟩ : ∃ d,d2.drop 24 = d := ⟨_,rfl⟩
    have hdl : d3.length = 432 := by rw [← hd3,List.length_drop,HDl.out]
    rw [hd3] at HS
    obtain ⟨i0,hi0⟩ : ∃ k,drawAt d3 0 = k := ⟨_,rfl⟩
    obtain ⟨i1,hi1⟩ : ∃ k,drawAt d3 1 = k := ⟨_,rfl⟩
    obtain ⟨i2,hi2⟩ : ∃ k,drawAt d3 2 = k := ⟨_,rfl⟩
    have HA := hid (once_grant sk [⟨nAl,1000,((7 : UInt64).toNat : Int)⟩] d3 k0 k1 8 Nw ⟨by decide,by decide⟩ (by omega) (by omega) hsk0 hsk1 (by omega) (near_one sk Nw _ (by omega) (by omega) (by omega)) (by decide) (by decide) (by omega))
    rw [hi0,hi1,hi2] at HA
    clear hi0 hi1 hi2 hd3 hdl HM HLq
    have HM := hid (bO_ok sk [⟨nAl,1000,((7 : UInt64).toNat : Int)⟩] d3 hsk0 hsk1 (by intro y hy; simp only [List.mem_cons,List.not_mem_nil,or_false] at hy; subst hy; exact i64a 1000 rfl))
    have HLq : Hid ((nextReq (ticketBox (oT k0) eT k1) (sealedProof (oT k0) 8 1000) nWeb 2 0 0).length ≤ 300) := nextq_len _ _ _ _ _ _ _ _ _ len_al (by decide) (by decide)
    have HLr : Hid ((giveBox 13 ⟨0,i0,nAl,1000,Nw,6000,0⟩ eW 2 0 k0 5 i1 i2).length ≤ 900) := give_len _ _ _ _ _ _ _ _ _ len_al (by decide)
    have HNow := HIn
    clear hsk0 hsk1 hN0 hN1 hlate
    have HC1 := hid (came_web k0 i0 i1 i2 Nw HIn.out)
    go_cut [10] (fun okv wx => okv = .bool true ∧ KS q lo hi wx g ⟨sk,bO,[⟨nAl,1000,((7 : UInt64).toNat : Int)⟩] ++ [⟨nAl,1000,((8 : UInt64).toNat : Int)⟩],d3.drop 24⟩ ∧ FR lo hi V wx)
    case first =>
     obtain ⟨a5,m5,c5,h5⟩ : ∃ a5 m5 c5,Hid ((a5 : Option Addr) = a3 ∧ (m5 : Nat) = m3 ∧ (c5 : Nat) = c3) := ⟨_,_,_,hid ⟨rfl,rfl,rfl⟩⟩
     obtain ⟨rfl,rfl,rfl⟩ := h5.out
     have X5 := HP
     clear h5
     have HSk : Hid (∀ W,FR lo hi V W → (fun w' => w'.cell? ⟨w1.heap.size,0,none⟩ = some (.pointer p0) ∧ w'.cell? ⟨w1.heap.size,1,none⟩ = some (.pointer p1) ∧ w'.cell? ⟨cb,6,none⟩ = some (.int .u64 (k0.toNat : Int))) W) := fun W k => ⟨(HK.out.fr k).house.cell 0,(HK.out.fr k).house.cell 1,(HCb.out.fr k (.inr HCbh.out)).cell 6⟩
     go_region_held3 (fun w' => w'.cell? ⟨w1.heap.size,0,none⟩ = some (.pointer p0) ∧ w'.cell? ⟨w1.heap.size,1,none⟩ = some (.pointer p1) ∧ w'.cell? ⟨cb,6,none⟩ = some (.int .u64 (k0.toNat : Int))) (exact HSk.out _ (by (repeat first | with_reducible exact F3.out | with_reducible exact F2.out | with_reducible exact F1.out | with_reducible exact FR.refl _ _ _ | with_reducible refine FR.alloc ?_ _ | with_reducible refine FR.drew ?_ | with_reducible refine FR.stores ?_ _ _ (by first | exact Nat.le_refl _ | exact F1.out.size | exact F2.out.size | exact F3.out.size)))) (first
      | (go_at_call 17; refine (kans2 q lo hi g p0 p1 ⟨sk,bO,[⟨nAl,1000,((7 : UInt64).toNat : Int)⟩],d3⟩ ⟨sk,bO,[⟨nAl,1000,((7 : UInt64).toNat : Int)⟩] ++ [⟨nAl,1000,((8 : UInt64).toNat : Int)⟩],d3.drop 24⟩ Nw (nextReq (ticketBox (oT k0) eT k1) (sealedProof (oT k0) 8 1000) nWeb 2 0 0) (giveBox 13 ⟨0,i0,nAl,1000,Nw,6000,0⟩ eW 2 0 k0 5 i1 i2) (.slice a5 m5 c5) _ HD.out HA.out (HS.out.gb (by (repeat first | with_reducible exact G1.out | with_reducible exact World.grownBy.refl _ _ | with_reducible refine gb_alloc ?_ _ | with_reducible refine gb_drew1 ?_))) HM.out (X5.out.fr (FR.gb (by (repeat first | with_reducible exact World.grownBy.refl _ _ | with_reducible refine gb_alloc ?_ _ | with_reducible refine gb_drew1 ?_)))) HLq.out HLr.out HNow.out (Nat.le_trans HVh.out (FR.size (lo := lo) (hi := hi) (a := V) (by (repeat first | with_reducible exact F3.out | with_reducible exact F2.out | with_reducible exact F1.out | with_reducible exact FR.refl _ _ _ | with_reducible refine FR.alloc ?_ _ | with_reducible refine FR.drew ?_ | with_reducible refine FR.stores ?_ _ _ (by first | exact Nat.le_refl _ | exact F1.out.size | exact F2.out.size | exact F3.out.size)))))).mono ?_; rintro e w6 ⟨a6,m6,c6,rfl,x6,s6,f6⟩; have F2 : Hid (FR lo hi V w6) := FR.trans (by (repeat first | with_reducible exact F3.out | with_reducible exact F2.out | with_reducible exact F1.out | with_reducible exact FR.refl _ _ _ | with_reducible refine FR.alloc ?_ _ | with_reducible refine FR.drew ?_ | with_reducible refine FR.stores ?_ _ _ (by first | exact Nat.le_refl _ | exact F1.out.size | exact F2.out.size | exact F3.out.size))) f6; have X6 := hid (And.intro x6 s6); clear x6 s6 f6)
      | (go_at_call 19; refine (HC1.out _ (.slice a6 m6 c6) (X6.out.1.fr (FR.gb (by (repeat first | with_reducible exact World.grownBy.refl _ _ | with_reducible refine gb_alloc ?_ _ | with_reducible refine gb_drew1 ?_)))).1 (KB.tab (HK.out.fr (by (repeat first | with_reducible exact F3.out | with_reducible exact F2.out | with_reducible exact F1.out | with_reducible exact FR.refl _ _ _ | with_reducible refine FR.alloc ?_ _ | with_reducible refine FR.drew ?_ | with_reducible refine FR.stores ?_ _ _ (by first | exact Nat.le_refl _ | exact F1.out.size | exact F2.out.size | exact F3.out.size)))) HTab.out)).mono ?_; rintro e w7 ⟨cs,ao,m7,c7,rfl,hcs,x7,g7⟩; have HCs := hid hcs; clear hcs; have S7 : Hid (KS q lo hi w7 g ⟨sk,bO,[⟨nAl,1000,((7 : UInt64).toNat : Int)⟩] ++ [⟨nAl,1000,((8 : UInt64).toNat : Int)⟩],d3.drop 24⟩) := X6.out.2.gb (gb_trans (by (repeat first | with_reducible exact World.grownBy.refl _ _ | with_reducible refine gb_alloc ?_ _ | with_reducible refine gb_drew1 ?_)) g7); have X7 : Hid (KX lo hi w7 (.slice ao m7 c7) (ticketBox ⟨0,i0,nAl,1000,Nw,6000,0⟩ eW i1)) := KX.made x7 (Nat.le_trans HVh.out (FR.size (lo := lo) (hi := hi) (a := V) (by (repeat first | with_reducible exact F3.out | with_reducible exact F2.out | with_reducible exact F1.out | with_reducible exact FR.refl _ _ _ | with_reducible refine FR.alloc ?_ _ | with_reducible refine FR.drew ?_ | with_reducible refine FR.stores ?_ _ _ (by first | exact Nat.le_refl _ | exact F1.out.size | exact F2.out.size | exact F3.out.size))))); have F3 : Hid (FR lo hi V w7) := FR.trans (by (repeat first | with_reducible exact F3.out | with_reducible exact F2.out | with_reducible exact F1.out | with_reducible exact FR.refl _ _ _ | with_reducible refine FR.alloc ?_ _ | with_reducible refine FR.drew ?_ | with_reducible refine FR.stores ?_ _ _ (by first | exact Nat.le_refl _ | exact F1.out.size | exact F2.out.size | exact F3.out.size))) (FR.gb g7); clear x7 g7))
     all_goals go_wp2
     all_goals go_meet
     all_goals exact ⟨rfl,S7.out,F3.out⟩
    case rest =>
     obtain ⟨rfl,hS,hF⟩ := hcut
     have HK9 := hid (HK.out.fr hF)
     obtain ⟨D3,hD3⟩ : ∃ D : Int,((d3.drop 24).length : Int) = D := ⟨_,rfl⟩
     have HSt := hid (kstate2 q lo hi g p0 p1 ⟨sk,bO,[⟨nAl,1000,((7 : UInt64).toNat : Int)⟩] ++ [⟨nAl,1000,((8 : UInt64).toNat : Int)⟩],d3.drop 24⟩ 2 D3 wc HD.out hS rfl hD3)
     clear hD3
     have y0 : wc.cell? ⟨w1.heap.size,0,none⟩ = some (.pointer p0) := HK9.out.house.cell 0
     have y1 : wc.cell? ⟨w1.heap.size,1,none⟩ = some (.pointer p1) := HK9.out.house.cell 1
     clear hS hF HS HK HP HCb HA HM HC1
     go_wp2_with fail
     refine HSt.out.mono ?_
     rintro e w9 ⟨b5,n5,x5,b6,n6,x6,rfl,g9⟩
     have HKe := hid (HK9.out.fr (FR.gb g9))
     have hf2 := fld2 b5 b6 n5 x5 n6 x6 w9 2 D3
     clear g9 HSt
     go_wp2
     go_ret
     exact ⟨rfl,HKe.out.below⟩
end Go.Proofs.YtbanfbpfapjfcaaGreatDoor
