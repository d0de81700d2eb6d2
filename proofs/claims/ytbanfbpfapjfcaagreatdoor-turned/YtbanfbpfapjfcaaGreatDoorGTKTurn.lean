/-
  
-/
import Derived.Test.YtbanfbpfapjfcaaGreatDoorGTKPost
namespace Go.Proofs.YtbanfbpfapjfcaaGreatDoor
open Go.RowKit
set_option maxRecDepth 100000
set_option maxHeartbeats 16000000 in
theorem turned_any (q : Bool) (seed which wait : Int) (w : World) (_h1 : -9223372036854775808 ≤ seed ∧ seed ≤ 9223372036854775807) (_h2 : -9223372036854775808 ≤ which ∧ which ≤ 9223372036854775807) (h3 : -9223372036854775808 ≤ wait ∧ wait ≤ 9223372036854775807) (htab : TabHere w) :
  Calls Tryz.prog 12 #[.bool q,.int .i64 seed,.int .i64 which,.int .i64 wait] w fun e w' => e = .returned (.bool true) ∧ Below w.heap.size w w' := by
 have HH := hid (khouse_ok q 20 seed 100 100 100 w (by decide) (by decide) (by decide) (by decide) (by decide) (by decide) (by decide) (by decide))
 rw [show ((pickN 20 301 : Nat) : Int) = 20 from rfl] at HH
 have HTab := hid htab
 have HWt := hid h3
 clear h3 htab
 go_enter Tryz.func12,Tryz.ntmps12
 go_wp2_with fail
 refine HH.out.mono ?_
 clear HH
 rintro e w1 ⟨p0,p1,av,cv,ds,g,lo,hi,rfl,hd,hS,hl,hX,hlo,hhi,hg⟩
 have HD := hid hd
 have HL := hid hl
 have HW1 := hid (And.intro hS (And.intro hlo (And.intro hhi hg)))
 clear hd hS hl hX hlo hhi hg
 obtain ⟨k0,hk0⟩ : ∃ k,drawAt ds 0 = k := ⟨_,rfl⟩
 obtain ⟨k1,hk1⟩ : ∃ k,drawAt ds 1 = k := ⟨_,rfl⟩
 obtain ⟨k2,hk2⟩ : ∃ k,drawAt ds 2 = k := ⟨_,rfl⟩
 have HA5 := hid (turn_first ds (by rw [HL.out]; decide))
 have HA8 := hid (post_first ds (by rw [HL.out]; decide))
 rw [hk0,hk1,hk2] at HA5 HA8
 obtain ⟨d2,hd2⟩ : ∃ d,ds.drop 24 = d := ⟨_,rfl⟩
 have HD2 := hid (show d2.length = 456 by rw [← hd2,List.length_drop,HL.out])
 rw [hd2] at HA5 HA8
 clear hk0 hk1 hk2 hd2
 have HM := hid (bT_ok [] ds (by simp))
 have HNow : Hid (In64 1000) := ⟨by decide,by decide⟩
 obtain ⟨B,hB⟩ : ∃ B : Bool,(which.tmod 2 != 0) = B := ⟨_,rfl⟩
 cases B with
 | false =>
  as_aux_lemma =>
   have hb2 : (which.tmod 2 == 0) = true := by simpa using hB
   go_upto_region 9 with fail
   refine wp_genK (fun V => KB w lo hi w1.heap.size #[.pointer p0,.pointer p1,.int .i64 20,.slice av 480 cv,.int .i64 100,.int .i64 100,.int .i64 100] V ∧ KS q lo hi V g ⟨20,bT,[],ds⟩) ⟨⟨(gb_below HW1.out.2.2.2).trans ((gb_below (World.grownBy_alloc w1 _ none)).mono HW1.out.2.2.2.size),Nat.le_trans HW1.out.2.2.1 (World.grownBy_alloc w1 _ none).size,Blk.new w1 _ _,HW1.out.2.2.1,HW1.out.2.1,Nat.le_of_lt (Nat.lt_of_le_of_lt HW1.out.1.1 HW1.out.1.2.1)⟩,HW1.out.1.gb (World.grownBy_alloc w1 _ none)⟩ ?_
   rintro V ⟨hK,hS⟩
   have HK := hid hK
   have HS := hid hS
   have HVh := hid hK.size
   have y0 : V.cell? ⟨w1.heap.size,0,none⟩ = some (.pointer p0) := hK.house.cell 0
   have y1 : V.cell? ⟨w1.heap.size,1,none⟩ = some (.pointer p1) := hK.house.cell 1
   clear hK hS
   have HA := HA5
   have HLq : Hid ((firstReq nAl nTgs 1 0 0 0 5).length ≤ 300) := first_len _ _ _ _ _ _ _ (by decide) (by decide)
   have HLr : Hid ((giveBox 11 (tC k0) tT 1 1 1000002 3 k1 k2).length ≤ 900) := give_len _ _ _ _ _ _ _ _ _ len_al (by decide)
   have HF1 := hid (first_tt lo hi 0 5 ⟨by decide,by decide⟩ ⟨by decide,by decide⟩)
   have HC1 := hid (came_tc k0 k1 k2)
   go_cut [13,10] (fun p okv wx => ∃ (cb : Nat) (ao : Option Addr) (m c : Nat),p = .pointer (some ⟨cb,0,none⟩) ∧ okv = .bool true ∧ hi ≤ cb ∧ Blk wx cb (cameC (.slice ao m c) (tC k0) tT 1) ∧ KX lo hi wx (.slice ao m c) (ticketBox (tC k0) tT k1) ∧ KS q lo hi wx g ⟨20,bT,[],d2⟩ ∧ FR lo hi V wx)
   case first =>
    as_aux_lemma =>
     have HSk : Hid (∀ W,FR lo hi V W → (fun w' => w'.cell? ⟨w1.heap.size,0,none⟩ = some (.pointer p0) ∧ w'.cell? ⟨w1.heap.size,1,none⟩ = some (.pointer p1)) W) := fun W k => ⟨(HK.out.fr k).house.cell 0,(HK.out.fr k).house.cell 1⟩
     go_region_held3 (fun w' => w'.cell? ⟨w1.heap.size,0,none⟩ = some (.pointer p0) ∧ w'.cell? ⟨w1.heap.size,1,none⟩ = some (.pointer p1)) (exact HSk.out _ (by (repeat first | with_reducible exact F3.out | with_reducible exact F2.out | with_reducible exact F1.out | with_reducible exact FR.refl _ _ _ | with_reducible refine FR.alloc ?_ _ | with_reducible refine FR.drew ?_ | with_reducible refine FR.stores ?_ _ _ (by first | exact Nat.le_refl _ | exact F1.out.size | exact F2.out.size | exact F3.out.size)))) (first
      | (go_at_call 18; refine (HF1.out _ (Nat.le_trans HVh.out (FR.size (lo := lo) (hi := hi) (a := V) (by (repeat first | with_reducible exact F3.out | with_reducible exact F2.out | with_reducible exact F1.out | with_reducible exact FR.refl _ _ _ | with_reducible refine FR.alloc ?_ _ | with_reducible refine FR.drew ?_ | with_reducible refine FR.stores ?_ _ _ (by first | exact Nat.le_refl _ | exact F1.out.size | exact F2.out.size | exact F3.out.size)))))).mono ?_; rintro e w5 ⟨a5,m5,c5,rfl,x5,g5⟩; have G1 : Hid (V.grownBy w5 none) := gb_trans (by (repeat first | with_reducible exact World.grownBy.refl _ _ | with_reducible refine gb_alloc ?_ _ | with_reducible refine gb_drew1 ?_)) g5; have F1 : Hid (FR lo hi V w5) := FR.gb G1.out; have X5 := hid x5; (first | (have HZ1 := hid (Blk.grown (Blk.drew (Blk.new V zeroCame 44)) g5 (by simp))) | skip); clear x5 g5)
      | (go_at_call 17; refine (kans2 q lo hi g p0 p1 ⟨20,bT,[],ds⟩ ⟨20,bT,[],d2⟩ 1000 (firstReq nAl nTgs 1 0 0 0 5) (giveBox 11 (tC k0) tT 1 1 1000002 3 k1 k2) (.slice a5 m5 c5) _ HD.out HA.out (HS.out.gb (by (repeat first | with_reducible exact G1.out | with_reducible exact World.grownBy.refl _ _ | with_reducible refine gb_alloc ?_ _ | with_reducible refine gb_drew1 ?_))) HM.out (X5.out.fr (FR.gb (by (repeat first | with_reducible exact World.grownBy.refl _ _ | with_reducible refine gb_alloc ?_ _ | with_reducible refine gb_drew1 ?_)))) HLq.out HLr.out HNow.out (Nat.le_trans HVh.out (FR.size (lo := lo) (hi := hi) (a := V) (by (repeat first | with_reducible exact F3.out | with_reducible exact F2.out | with_reducible exact F1.out | with_reducible exact FR.refl _ _ _ | with_reducible refine FR.alloc ?_ _ | with_reducible refine FR.drew ?_ | with_reducible refine FR.stores ?_ _ _ (by first | exact Nat.le_refl _ | exact F1.out.size | exact F2.out.size | exact F3.out.size)))))).mono ?_; rintro e w6 ⟨a6,m6,c6,rfl,x6,s6,f6⟩; have F2 : Hid (FR lo hi V w6) := FR.trans (by (repeat first | with_reducible exact F3.out | with_reducible exact F2.out | with_reducible exact F1.out | with_reducible exact FR.refl _ _ _ | with_reducible refine FR.alloc ?_ _ | with_reducible refine FR.drew ?_ | with_reducible refine FR.stores ?_ _ _ (by first | exact Nat.le_refl _ | exact F1.out.size | exact F2.out.size | exact F3.out.size))) f6; have X6 := hid (And.intro x6 s6); (first | (have HZ2 := hid (Blk.fr (lo := lo) (hi := hi) HZ1.out f6 (.inr HVh.out))) | (have HZ2 := hid (Blk.fr (lo := lo) (hi := hi) (Blk.new w5 zeroCame 44) f6 (.inr (Nat.le_trans HVh.out F1.out.size)))) | skip); clear x6 s6 f6)
      | (go_at_call 19; refine (HC1.out _ (.slice a6 m6 c6) (X6.out.1.fr (FR.gb (by (repeat first | with_reducible exact World.grownBy.refl _ _ | with_reducible refine gb_alloc ?_ _ | with_reducible refine gb_drew1 ?_)))).1 (KB.tab (HK.out.fr (by (repeat first | with_reducible exact F3.out | with_reducible exact F2.out | with_reducible exact F1.out | with_reducible exact FR.refl _ _ _ | with_reducible refine FR.alloc ?_ _ | with_reducible refine FR.drew ?_ | with_reducible refine FR.stores ?_ _ _ (by first | exact Nat.le_refl _ | exact F1.out.size | exact F2.out.size | exact F3.out.size)))) HTab.out)).mono ?_; rintro e w7 ⟨cs,ao,m7,c7,rfl,hcs,x7,g7⟩; have HCs := hid hcs; clear hcs; have S7 : Hid (KS q lo hi w7 g ⟨20,bT,[],d2⟩) := X6.out.2.gb (gb_trans (by (repeat first | with_reducible exact World.grownBy.refl _ _ | with_reducible refine gb_alloc ?_ _ | with_reducible refine gb_drew1 ?_)) g7); have X7 : Hid (KX lo hi w7 (.slice ao m7 c7) (ticketBox (tC k0) tT k1)) := KX.made x7 (Nat.le_trans HVh.out (FR.size (lo := lo) (hi := hi) (a := V) (by (repeat first | with_reducible exact F3.out | with_reducible exact F2.out | with_reducible exact F1.out | with_reducible exact FR.refl _ _ _ | with_reducible refine FR.alloc ?_ _ | with_reducible refine FR.drew ?_ | with_reducible refine FR.stores ?_ _ _ (by first | exact Nat.le_refl _ | exact F1.out.size | exact F2.out.size | exact F3.out.size))))); (first | (have HZ3 := hid (Blk.grown HZ2.out g7 (by simp)); have HNe := hid (place_ne x7 (.inl HZ2.out.lt))) | (have HZ3 := hid (Blk.grown (Blk.new w6 zeroCame 44) g7 (by simp)); have HNe := hid (place_ne x7 (cb := w6.heap.size) (.inl (by rw [World.size_alloc]; omega)))) | (have HZ3 := hid (Blk.new w7 zeroCame 44); have HNe := hid (place_ne x7 (cb := w7.heap.size) (.inr (Nat.le_refl _))))); have hsz := came_size HCs.out; have hst := run_store_live (P := Tryz.prog) cs.toList (came_live HZ3.out) (by rw [Array.length_toList,hsz]; exact Nat.le_refl _) (came_one HCs.out); have F3 : Hid (FR lo hi V w7) := FR.trans (by (repeat first | with_reducible exact F3.out | with_reducible exact F2.out | with_reducible exact F1.out | with_reducible exact FR.refl _ _ _ | with_reducible refine FR.alloc ?_ _ | with_reducible refine FR.drew ?_ | with_reducible refine FR.stores ?_ _ _ (by first | exact Nat.le_refl _ | exact F1.out.size | exact F2.out.size | exact F3.out.size))) (FR.gb g7); clear x7 g7))
     all_goals go_wp2
     all_goals go_meet
     all_goals first
      | exact ⟨_,ao,m7,c7,rfl,rfl,(by first | exact HVh.out | exact Nat.le_trans HVh.out F1.out.size | exact Nat.le_trans HVh.out F2.out.size | exact Nat.le_trans HVh.out F3.out.size),came_put HZ3.out HCs.out,X7.out.cf (cfs w7 _ _) (fun b off n c e o e2 => HNe.out b off n c e e2),S7.out.cf (cfs w7 _ _) (fun b y e => .inr (by rw [e]; first | exact HVh.out | exact Nat.le_trans HVh.out F1.out.size | exact Nat.le_trans HVh.out F2.out.size | exact Nat.le_trans HVh.out F3.out.size)),(by (repeat first | with_reducible exact F3.out | with_reducible exact F2.out | with_reducible exact F1.out | with_reducible exact FR.refl _ _ _ | with_reducible refine FR.alloc ?_ _ | with_reducible refine FR.drew ?_ | with_reducible refine FR.stores ?_ _ _ (by first | exact Nat.le_refl _ | exact F1.out.size | exact F2.out.size | exact F3.out.size)))⟩
      | exact ⟨_,ao,m7,c7,rfl,rfl,(by first | exact HVh.out | exact Nat.le_trans HVh.out F1.out.size | exact Nat.le_trans HVh.out F2.out.size | exact Nat.le_trans HVh.out F3.out.size),came_put HZ3.out HCs.out,(X7.out.fr (FR.gb (gb_alloc0 w7 _))).cf (cfs _ _ _) (fun b off n c e o e2 => HNe.out b off n c e e2),(S7.out.gb (gb_alloc0 w7 _)).cf (cfs _ _ _) (fun b y e => .inr (by rw [e]; exact Nat.le_trans HVh.out F3.out.size)),(by (repeat first | with_reducible exact F3.out | with_reducible exact F2.out | with_reducible exact F1.out | with_reducible exact FR.refl _ _ _ | with_reducible refine FR.alloc ?_ _ | with_reducible refine FR.drew ?_ | with_reducible refine FR.stores ?_ _ _ (by first | exact Nat.le_refl _ | exact F1.out.size | exact F2.out.size | exact F3.out.size)))⟩
   case rest =>
    as_aux_lemma =>
     obtain ⟨cb,ao,m,c,rfl,rfl,hcb,hBc,hX,hS,hF⟩ := hcut
     have HCbh := hid hcb
     have HBc := hid hBc
     have HX1 := hid hX
     have HS1 := hid hS
     have HK1 := hid (HK.out.fr hF)
     clear hcb hBc hX hS hF HA HM HLq HLr HF1 HC1 HK HS HVh y0 y1 HW1 HA5 HA8 HNow
     have hpl := pickN_lt wait 101 (by decide)
     obtain ⟨P,hP⟩ : ∃ P : Int,(pickN wait 101 : Int) = P := ⟨_,rfl⟩
     have hP0 : 0 ≤ P := by omega
     have hP1 : P ≤ 100 := by omega
     have HPk : Hid (∀ W,Calls Tryz.prog 14 #[.int .i64 wait,.int .i64 101] W fun e w' => e = .returned (.int .i64 P) ∧ W = w') := fun W => by
      have := kpick_any wait 101 W HWt.out (by decide)
      rw [show (101 : Int).toNat = 101 from rfl,hP] at this
      exact this
     clear hpl hP
     have e0 : wc.cell? ⟨cb,0,none⟩ = some (.slice ao m c) := HBc.out.cell 0
     have e1 : wc.cell? ⟨cb,1,none⟩ = some (.int .i64 37) := HBc.out.cell 1
     have e4 : wc.cell? ⟨cb,4,none⟩ = some (.int .i64 1100) := HBc.out.cell 4
     have e5 : wc.cell? ⟨cb,5,none⟩ = some (.int .i64 1300) := HBc.out.cell 5
     have e6 : wc.cell? ⟨cb,6,none⟩ = some (.int .u64 (k0.toNat : Int)) := HBc.out.cell 6
     go_wp2_with fail
     refine (HPk.out _).mono ?_
     rintro e w4 ⟨rfl,rfl⟩
     obtain ⟨now,hnow⟩ : ∃ n : Int,1000 + P = n := ⟨_,rfl⟩
     have hn0 : 1000 ≤ now := by omega
     have hn1 : now ≤ 1100 := by omega
     have HIn : Hid (In64 now) := in_of hn0 (by omega)
     have HNn := hid (And.intro hn0 hn1)
     have Hnow := hid hnow
     clear hn0 hn1 hnow HPk e1 e4 e5
     have HN1 := hid (next_tt lo hi (tC k0) k1 1 1 (.slice ao m c) now 16 nTgs wc HK1.out.size HX1.out rfl (by decide) HIn.out ⟨by decide,by decide⟩ rfl (by decide))
     go_wp2_with fail
     rw [Hnow.out]
     clear hP0 hP1
     refine HN1.out.mono ?_
     clear HN1
     rintro e W1 ⟨a_W1,m_W1,c_W1,rfl,x1,g1⟩
     have HG_W1 := hid g1
     have HQ_W1 := hid x1
     have HK_W1 := hid (HK1.out.fr (FR.gb g1))
     clear x1 g1
     have HS_W1 := hid (HS1.out.gb HG_W1.out)
     have HBc1 := hid (HBc.out.grown HG_W1.out (by simp))
     clear e0 e6
     obtain ⟨j0,hj0⟩ : ∃ k,drawAt d2 0 = k := ⟨_,rfl⟩
     obtain ⟨j1,hj1⟩ : ∃ k,drawAt d2 1 = k := ⟨_,rfl⟩
     obtain ⟨j2,hj2⟩ : ∃ k,drawAt d2 2 = k := ⟨_,rfl⟩
     obtain ⟨d3,hd3⟩ : ∃ d,d2.drop 24 = d := ⟨_,rfl⟩
     have HAf := hid (turn_renew d2 k0 k1 now HNn.out.1 HNn.out.2 (by rw [HD2.out]; decide))
     rw [hj0,hj1,hj2,hd3] at HAf
     have HD3 := hid (show d3.length = 432 by rw [← hd3,List.length_drop,HD2.out])
     clear hj0 hj1 hj2 hd3
     have HA := hid (HAf.out)
     have HM := hid (bT_ok [] d2 (pf_now HIn.out _ (by simp)))
     have HLq : Hid ((nextReq (ticketBox (tC k0) tT k1) (sealedProof (tC k0) 1 now) nTgs 1 0 16).length ≤ 300) := nextq_len _ _ _ _ _ _ _ _ _ len_al (by decide) (by decide)
     have HLr : Hid ((giveBox 13 (tD j0 now) tT 1 0 k0 5 j1 j2).length ≤ 900) := give_len _ _ _ _ _ _ _ _ _ len_al (by decide)
     have HNow := HIn
     have HC1 := hid (came_td k0 j0 j1 j2 now HNn.out.1 (by have := HNn.out.2; omega))
     have HVh := hid HK_W1.out.size
     have y0 : W1.cell? ⟨w1.heap.size,0,none⟩ = some (.pointer p0) := HK_W1.out.house.cell 0
     have y1 : W1.cell? ⟨w1.heap.size,1,none⟩ = some (.pointer p1) := HK_W1.out.house.cell 1
     have e6 : W1.cell? ⟨cb,6,none⟩ = some (.int .u64 (k0.toNat : Int)) := HBc1.out.cell 6
     go_upto_region 18 with fail
     go_cut [17,10] (fun p okv wx => ∃ (cb : Nat) (ao : Option Addr) (m c : Nat),p = .pointer (some ⟨cb,0,none⟩) ∧ okv = .bool true ∧ hi ≤ cb ∧ Blk wx cb (cameC (.slice ao m c) (tD j0 now) tT 1) ∧ KX lo hi wx (.slice ao m c) (ticketBox (tD j0 now) tT j1) ∧ KS q lo hi wx g ⟨20,bT,[⟨nAl,now,((1 : UInt64).toNat : Int)⟩],d3⟩ ∧ FR lo hi W1 wx)
     case first =>
      as_aux_lemma =>
       obtain ⟨V,hV⟩ : ∃ V,Hid (V = W1) := ⟨_,hid rfl⟩
       obtain rfl := hV.out
       have HK := HK_W1
       have HS := HS_W1
       clear hV
       obtain ⟨a5,m5,c5,h5⟩ : ∃ a5 m5 c5,Hid ((a5 : Option Addr) = a_W1 ∧ (m5 : Nat) = m_W1 ∧ (c5 : Nat) = c_W1) := ⟨_,_,_,hid ⟨rfl,rfl,rfl⟩⟩
       obtain ⟨rfl,rfl,rfl⟩ := h5.out
       have X5 := HQ_W1
       clear h5
       have HSk : Hid (∀ W,FR lo hi V W → (fun w' => w'.cell? ⟨w1.heap.size,0,none⟩ = some (.pointer p0) ∧ w'.cell? ⟨w1.heap.size,1,none⟩ = some (.pointer p1) ∧ w'.cell? ⟨cb,6,none⟩ = some (.int .u64 (k0.toNat : Int))) W) := fun W k => ⟨(HK.out.fr k).house.cell 0,(HK.out.fr k).house.cell 1,(HBc1.out.fr k (.inr HCbh.out)).cell 6⟩
       go_region_held3 (fun w' => w'.cell? ⟨w1.heap.size,0,none⟩ = some (.pointer p0) ∧ w'.cell? ⟨w1.heap.size,1,none⟩ = some (.pointer p1) ∧ w'.cell? ⟨cb,6,none⟩ = some (.int .u64 (k0.toNat : Int))) (exact HSk.out _ (by (repeat first | with_reducible exact F3.out | with_reducible exact F2.out | with_reducible exact F1.out | with_reducible exact FR.refl _ _ _ | with_reducible refine FR.alloc ?_ _ | with_reducible refine FR.drew ?_ | with_reducible refine FR.stores ?_ _ _ (by first | exact Nat.le_refl _ | exact F1.out.size | exact F2.out.size | exact F3.out.size)))) (first
        | (go_at_call 17; refine (kans2 q lo hi g p0 p1 ⟨20,bT,[],d2⟩ ⟨20,bT,[⟨nAl,now,((1 : UInt64).toNat : Int)⟩],d3⟩ now (nextReq (ticketBox (tC k0) tT k1) (sealedProof (tC k0) 1 now) nTgs 1 0 16) (giveBox 13 (tD j0 now) tT 1 0 k0 5 j1 j2) (.slice a5 m5 c5) _ HD.out HA.out (HS.out.gb (by (repeat first | with_reducible exact G1.out | with_reducible exact World.grownBy.refl _ _ | with_reducible refine gb_alloc ?_ _ | with_reducible refine gb_drew1 ?_))) HM.out (X5.out.fr (FR.gb (by (repeat first | with_reducible exact World.grownBy.refl _ _ | with_reducible refine gb_alloc ?_ _ | with_reducible refine gb_drew1 ?_)))) HLq.out HLr.out HNow.out (Nat.le_trans HVh.out (FR.size (lo := lo) (hi := hi) (a := V) (by (repeat first | with_reducible exact F3.out | with_reducible exact F2.out | with_reducible exact F1.out | with_reducible exact FR.refl _ _ _ | with_reducible refine FR.alloc ?_ _ | with_reducible refine FR.drew ?_ | with_reducible refine FR.stores ?_ _ _ (by first | exact Nat.le_refl _ | exact F1.out.size | exact F2.out.size | exact F3.out.size)))))).mono ?_; rintro e w6 ⟨a6,m6,c6,rfl,x6,s6,f6⟩; have F2 : Hid (FR lo hi V w6) := FR.trans (by (repeat first | with_reducible exact F3.out | with_reducible exact F2.out | with_reducible exact F1.out | with_reducible exact FR.refl _ _ _ | with_reducible refine FR.alloc ?_ _ | with_reducible refine FR.drew ?_ | with_reducible refine FR.stores ?_ _ _ (by first | exact Nat.le_refl _ | exact F1.out.size | exact F2.out.size | exact F3.out.size))) f6; have X6 := hid (And.intro x6 s6); (first | (have HZ2 := hid (Blk.fr (lo := lo) (hi := hi) (Blk.drew (Blk.new V zeroCame 44)) f6 (.inr HVh.out))) | skip); clear x6 s6 f6)
        | (go_at_call 19; refine (HC1.out _ (.slice a6 m6 c6) (X6.out.1.fr (FR.gb (by (repeat first | with_reducible exact World.grownBy.refl _ _ | with_reducible refine gb_alloc ?_ _ | with_reducible refine gb_drew1 ?_)))).1 (KB.tab (HK.out.fr (by (repeat first | with_reducible exact F3.out | with_reducible exact F2.out | with_reducible exact F1.out | with_reducible exact FR.refl _ _ _ | with_reducible refine FR.alloc ?_ _ | with_reducible refine FR.drew ?_ | with_reducible refine FR.stores ?_ _ _ (by first | exact Nat.le_refl _ | exact F1.out.size | exact F2.out.size | exact F3.out.size)))) HTab.out)).mono ?_; rintro e w7 ⟨cs,ao,m7,c7,rfl,hcs,x7,g7⟩; have HCs := hid hcs; clear hcs; have S7 : Hid (KS q lo hi w7 g ⟨20,bT,[⟨nAl,now,((1 : UInt64).toNat : Int)⟩],d3⟩) := X6.out.2.gb (gb_trans (by (repeat first | with_reducible exact World.grownBy.refl _ _ | with_reducible refine gb_alloc ?_ _ | with_reducible refine gb_drew1 ?_)) g7); have X7 : Hid (KX lo hi w7 (.slice ao m7 c7) (ticketBox (tD j0 now) tT j1)) := KX.made x7 (Nat.le_trans HVh.out (FR.size (lo := lo) (hi := hi) (a := V) (by (repeat first | with_reducible exact F3.out | with_reducible exact F2.out | with_reducible exact F1.out | with_reducible exact FR.refl _ _ _ | with_reducible refine FR.alloc ?_ _ | with_reducible refine FR.drew ?_ | with_reducible refine FR.stores ?_ _ _ (by first | exact Nat.le_refl _ | exact F1.out.size | exact F2.out.size | exact F3.out.size))))); (first | (have HZ3 := hid (Blk.grown HZ2.out g7 (by simp)); have HNe := hid (place_ne x7 (.inl HZ2.out.lt))) | (have HZ3 := hid (Blk.grown (Blk.new w6 zeroCame 44) g7 (by simp)); have HNe := hid (place_ne x7 (cb := w6.heap.size) (.inl (by rw [World.size_alloc]; omega)))) | (have HZ3 := hid (Blk.new w7 zeroCame 44); have HNe := hid (place_ne x7 (cb := w7.heap.size) (.inr (Nat.le_refl _))))); have hsz := came_size HCs.out; have hst := run_store_live (P := Tryz.prog) cs.toList (came_live HZ3.out) (by rw [Array.length_toList,hsz]; exact Nat.le_refl _) (came_one HCs.out); have F3 : Hid (FR lo hi V w7) := FR.trans (by (repeat first | with_reducible exact F3.out | with_reducible exact F2.out | with_reducible exact F1.out | with_reducible exact FR.refl _ _ _ | with_reducible refine FR.alloc ?_ _ | with_reducible refine FR.drew ?_ | with_reducible refine FR.stores ?_ _ _ (by first | exact Nat.le_refl _ | exact F1.out.size | exact F2.out.size | exact F3.out.size))) (FR.gb g7); clear x7 g7))
       all_goals go_wp2
       all_goals go_meet
       all_goals first
        | exact ⟨_,ao,m7,c7,rfl,rfl,(by first | exact HVh.out | exact Nat.le_trans HVh.out F1.out.size | exact Nat.le_trans HVh.out F2.out.size | exact Nat.le_trans HVh.out F3.out.size),came_put HZ3.out HCs.out,X7.out.cf (cfs w7 _ _) (fun b off n c e o e2 => HNe.out b off n c e e2),S7.out.cf (cfs w7 _ _) (fun b y e => .inr (by rw [e]; first | exact HVh.out | exact Nat.le_trans HVh.out F1.out.size | exact Nat.le_trans HVh.out F2.out.size | exact Nat.le_trans HVh.out F3.out.size)),(by (repeat first | with_reducible exact F3.out | with_reducible exact F2.out | with_reducible exact F1.out | with_reducible exact FR.refl _ _ _ | with_reducible refine FR.alloc ?_ _ | with_reducible refine FR.drew ?_ | with_reducible refine FR.stores ?_ _ _ (by first | exact Nat.le_refl _ | exact F1.out.size | exact F2.out.size | exact F3.out.size)))⟩
        | exact ⟨_,ao,m7,c7,rfl,rfl,(by first | exact HVh.out | exact Nat.le_trans HVh.out F1.out.size | exact Nat.le_trans HVh.out F2.out.size | exact Nat.le_trans HVh.out F3.out.size),came_put HZ3.out HCs.out,(X7.out.fr (FR.gb (gb_alloc0 w7 _))).cf (cfs _ _ _) (fun b off n c e o e2 => HNe.out b off n c e e2),(S7.out.gb (gb_alloc0 w7 _)).cf (cfs _ _ _) (fun b y e => .inr (by rw [e]; exact Nat.le_trans HVh.out F3.out.size)),(by (repeat first | with_reducible exact F3.out | with_reducible exact F2.out | with_reducible exact F1.out | with_reducible exact FR.refl _ _ _ | with_reducible refine FR.alloc ?_ _ | with_reducible refine FR.drew ?_ | with_reducible refine FR.stores ?_ _ _ (by first | exact Nat.le_refl _ | exact F1.out.size | exact F2.out.size | exact F3.out.size)))⟩
     case rest =>
      as_aux_lemma =>
       obtain ⟨b_W2,o_W2,n_W2,r_W2,rfl,rfl,hcb,hBc,hX,hS,hF⟩ := hcut
       obtain ⟨W2,hwc⟩ : ∃ W,Hid (W = wc) := ⟨_,hid rfl⟩
       obtain rfl := hwc.out
       clear hwc
       have HC_W2 := hid hcb
       have HB_W2 := hid hBc
       have HX_W2 := hid hX
       have HS_W2 := hid hS
       have HF_W2 := hid hF
       have HK_W2 := hid (HK_W1.out.fr hF)
       clear hcb hBc hX hS hF HA HM HLq HLr HC1 HVh y0 y1 HNow
       have HBc2 := hid (HBc1.out.fr HF_W2.out (.inr HCbh.out))
       clear e6
       have q1 : W2.cell? ⟨b_W2,1,none⟩ = some (.int .i64 37) := HB_W2.out.cell 1
       have q2 : W2.cell? ⟨b_W2,3,none⟩ = some (.int .i64 now) := HB_W2.out.cell 3
       have q3 : W2.cell? ⟨b_W2,4,none⟩ = some (.int .i64 (now + 100)) := HB_W2.out.cell 4
       have q4 : W2.cell? ⟨b_W2,5,none⟩ = some (.int .i64 1300) := HB_W2.out.cell 5
       have q5 : W2.cell? ⟨cb,1,none⟩ = some (.int .i64 37) := HBc2.out.cell 1
       go_upto_region 19 with fail
       go_cut [134] (fun z wx => z = .bool false ∧ W2.grownBy wx none)
       case first =>
        as_aux_lemma =>
         have hw : IntKind.i64.wrap (now + 100) = now + 100 := by rw [IntKind.wrap_i64]; have := HNn.out; omega
         obtain ⟨E,hE⟩ : ∃ E : Int,now + 100 = E := ⟨_,rfl⟩
         have HLs : Hid (∀ nq,Calls Tryz.prog 16 #[.int .i64 1300,.int .i64 E] (W2.drewN nq) fun e w'' => e = .returned (.int .i64 E) ∧ ∃ m,w'' = W2.drewN m) := fun nq => by
          have := kleast_any 1300 E (W2.drewN nq)
          rw [if_neg (by have := HNn.out.2; omega)] at this
          exact this.mono fun _ _ ⟨h1,h2⟩ => ⟨h1,nq,h2.symm⟩
         rw [hE] at hw q3
         have HE := hid hE
         clear hE
         have hn1 : (now != now) = false := by simp
         have hn2 : (E != E) = false := by simp
         go_quiet (first | (go_at_call 16; exact HLs.out _) | (go_at_call 16; rw [HE.out,hw]; exact HLs.out _) | (go_at_call 16; rw [hw]; exact HLs.out _))
         go_wp2
         go_meet
         exact ⟨rfl,gb_drewN (World.grownBy.refl _ _) _⟩
       case rest =>
        as_aux_lemma =>
         obtain ⟨rfl,hF⟩ := hcut
         obtain ⟨W3,hwc⟩ : ∃ W,Hid (W = wc) := ⟨_,hid rfl⟩
         obtain rfl := hwc.out
         clear hwc
         have HK_W3 := hid (HK_W2.out.fr (FR.gb hF))
         have HX_W3 := hid (HX_W2.out.fr (FR.gb hF))
         have HS_W3 := hid (HS_W2.out.gb hF)
         have HB_W3 := hid (HB_W2.out.grown hF (by simp))
         clear hF q1 q2 q3 q4 q5
         have e0 : W3.cell? ⟨b_W2,0,none⟩ = some (.slice o_W2 n_W2 r_W2) := HB_W3.out.cell 0
         have e6 : W3.cell? ⟨b_W2,6,none⟩ = some (.int .u64 (j0.toNat : Int)) := HB_W3.out.cell 6
         have HN1 := hid (next_tt lo hi (tD j0 now) j1 2 2 (.slice o_W2 n_W2 r_W2) now 64 nWeb W3 HK_W3.out.size HX_W3.out rfl (by decide) HIn.out ⟨by decide,by decide⟩ rfl (by decide))
         go_wp2_with fail
         refine HN1.out.mono ?_
         clear HN1
         rintro e W4 ⟨a_W4,m_W4,c_W4,rfl,x1,g1⟩
         have HG_W4 := hid g1
         have HQ_W4 := hid x1
         have HK_W4 := hid (HK_W3.out.fr (FR.gb g1))
         clear x1 g1
         have HS_W4 := hid (HS_W3.out.gb HG_W4.out)
         have HB_W4 := hid (HB_W3.out.grown HG_W4.out (by simp))
         clear e0 e6
         obtain ⟨i0,hi0⟩ : ∃ k,drawAt d3 0 = k := ⟨_,rfl⟩
         obtain ⟨i1,hi1⟩ : ∃ k,drawAt d3 1 = k := ⟨_,rfl⟩
         obtain ⟨i2,hi2⟩ : ∃ k,drawAt d3 2 = k := ⟨_,rfl⟩
         obtain ⟨d4,hd4⟩ : ∃ d,d3.drop 24 = d := ⟨_,rfl⟩
         have HAf := hid (turn_fwd d3 j0 j1 now HNn.out.1 HNn.out.2 (by rw [HD3.out]; decide))
         rw [hi0,hi1,hi2,hd4] at HAf
         have HD4 := hid (show d4.length = 408 by rw [← hd4,List.length_drop,HD3.out])
         clear hi0 hi1 hi2 hd4
         have hbe : (now == now + 100) = false := by have := HNn.out.1; simp; omega
         have e4 : W4.cell? ⟨b_W2,4,none⟩ = some (.int .i64 (now + 100)) := HB_W4.out.cell 4
         have HA := hid (HAf.out)
         have HM := hid (bT_ok [⟨nAl,now,((1 : UInt64).toNat : Int)⟩] d3 (pf_now HIn.out _ (by simp)))
         have HLq : Hid ((nextReq (ticketBox (tD j0 now) tT j1) (sealedProof (tD j0 now) 2 now) nWeb 1 0 64).length ≤ 300) := nextq_len _ _ _ _ _ _ _ _ _ len_al (by decide) (by decide)
         have HLr : Hid ((giveBox 13 (tF i0 now) tW 1 0 j0 5 i1 i2).length ≤ 900) := give_len _ _ _ _ _ _ _ _ _ len_al (by decide)
         have HNow := HIn
         have HC1 := hid (came_tf j0 i0 i1 i2 now HNn.out.1 (by have := HNn.out.2; omega))
         have HVh := hid HK_W4.out.size
         have y0 : W4.cell? ⟨w1.heap.size,0,none⟩ = some (.pointer p0) := HK_W4.out.house.cell 0
         have y1 : W4.cell? ⟨w1.heap.size,1,none⟩ = some (.pointer p1) := HK_W4.out.house.cell 1
         have e6 : W4.cell? ⟨b_W2,6,none⟩ = some (.int .u64 (j0.toNat : Int)) := HB_W4.out.cell 6
         go_upto_region 24 with fail
         clear hbe e4
         go_cut [20,10] (fun p okv wx => ∃ (cb : Nat) (ao : Option Addr) (m c : Nat),p = .pointer (some ⟨cb,0,none⟩) ∧ okv = .bool true ∧ hi ≤ cb ∧ Blk wx cb (cameC (.slice ao m c) (tF i0 now) tW 1) ∧ KX lo hi wx (.slice ao m c) (ticketBox (tF i0 now) tW i1) ∧ KS q lo hi wx g ⟨20,bT,[⟨nAl,now,((1 : UInt64).toNat : Int)⟩,⟨nAl,now,((2 : UInt64).toNat : Int)⟩],d4⟩ ∧ FR lo hi W4 wx)
         case first =>
          as_aux_lemma =>
           obtain ⟨V,hV⟩ : ∃ V,Hid (V = W4) := ⟨_,hid rfl⟩
           obtain rfl := hV.out
           have HK := HK_W4
           have HS := HS_W4
           clear hV
           obtain ⟨a5,m5,c5,h5⟩ : ∃ a5 m5 c5,Hid ((a5 : Option Addr) = a_W4 ∧ (m5 : Nat) = m_W4 ∧ (c5 : Nat) = c_W4) := ⟨_,_,_,hid ⟨rfl,rfl,rfl⟩⟩
           obtain ⟨rfl,rfl,rfl⟩ := h5.out
           have X5 := HQ_W4
           clear h5
           have HSk : Hid (∀ W,FR lo hi V W → (fun w' => w'.cell? ⟨w1.heap.size,0,none⟩ = some (.pointer p0) ∧ w'.cell? ⟨w1.heap.size,1,none⟩ = some (.pointer p1) ∧ w'.cell? ⟨b_W2,6,none⟩ = some (.int .u64 (j0.toNat : Int))) W) := fun W k => ⟨(HK.out.fr k).house.cell 0,(HK.out.fr k).house.cell 1,(HB_W4.out.fr k (.inr HC_W2.out)).cell 6⟩
           go_region_held3 (fun w' => w'.cell? ⟨w1.heap.size,0,none⟩ = some (.pointer p0) ∧ w'.cell? ⟨w1.heap.size,1,none⟩ = some (.pointer p1) ∧ w'.cell? ⟨b_W2,6,none⟩ = some (.int .u64 (j0.toNat : Int))) (exact HSk.out _ (by (repeat first | with_reducible exact F3.out | with_reducible exact F2.out | with_reducible exact F1.out | with_reducible exact FR.refl _ _ _ | with_reducible refine FR.alloc ?_ _ | with_reducible refine FR.drew ?_ | with_reducible refine FR.stores ?_ _ _ (by first | exact Nat.le_refl _ | exact F1.out.size | exact F2.out.size | exact F3.out.size)))) (first
            | (go_at_call 17; refine (kans2 q lo hi g p0 p1 ⟨20,bT,[⟨nAl,now,((1 : UInt64).toNat : Int)⟩],d3⟩ ⟨20,bT,[⟨nAl,now,((1 : UInt64).toNat : Int)⟩,⟨nAl,now,((2 : UInt64).toNat : Int)⟩],d4⟩ now (nextReq (ticketBox (tD j0 now) tT j1) (sealedProof (tD j0 now) 2 now) nWeb 1 0 64) (giveBox 13 (tF i0 now) tW 1 0 j0 5 i1 i2) (.slice a5 m5 c5) _ HD.out HA.out (HS.out.gb (by (repeat first | with_reducible exact G1.out | with_reducible exact World.grownBy.refl _ _ | with_reducible refine gb_alloc ?_ _ | with_reducible refine gb_drew1 ?_))) HM.out (X5.out.fr (FR.gb (by (repeat first | with_reducible exact World.grownBy.refl _ _ | with_reducible refine gb_alloc ?_ _ | with_reducible refine gb_drew1 ?_)))) HLq.out HLr.out HNow.out (Nat.le_trans HVh.out (FR.size (lo := lo) (hi := hi) (a := V) (by (repeat first | with_reducible exact F3.out | with_reducible exact F2.out | with_reducible exact F1.out | with_reducible exact FR.refl _ _ _ | with_reducible refine FR.alloc ?_ _ | with_reducible refine FR.drew ?_ | with_reducible refine FR.stores ?_ _ _ (by first | exact Nat.le_refl _ | exact F1.out.size | exact F2.out.size | exact F3.out.size)))))).mono ?_; rintro e w6 ⟨a6,m6,c6,rfl,x6,s6,f6⟩; have F2 : Hid (FR lo hi V w6) := FR.trans (by (repeat first | with_reducible exact F3.out | with_reducible exact F2.out | with_reducible exact F1.out | with_reducible exact FR.refl _ _ _ | with_reducible refine FR.alloc ?_ _ | with_reducible refine FR.drew ?_ | with_reducible refine FR.stores ?_ _ _ (by first | exact Nat.le_refl _ | exact F1.out.size | exact F2.out.size | exact F3.out.size))) f6; have X6 := hid (And.intro x6 s6); (first | (have HZ2 := hid (Blk.fr (lo := lo) (hi := hi) (Blk.drew (Blk.new V zeroCame 44)) f6 (.inr HVh.out))) | skip); clear x6 s6 f6)
            | (go_at_call 19; refine (HC1.out _ (.slice a6 m6 c6) (X6.out.1.fr (FR.gb (by (repeat first | with_reducible exact World.grownBy.refl _ _ | with_reducible refine gb_alloc ?_ _ | with_reducible refine gb_drew1 ?_)))).1 (KB.tab (HK.out.fr (by (repeat first | with_reducible exact F3.out | with_reducible exact F2.out | with_reducible exact F1.out | with_reducible exact FR.refl _ _ _ | with_reducible refine FR.alloc ?_ _ | with_reducible refine FR.drew ?_ | with_reducible refine FR.stores ?_ _ _ (by first | exact Nat.le_refl _ | exact F1.out.size | exact F2.out.size | exact F3.out.size)))) HTab.out)).mono ?_; rintro e w7 ⟨cs,ao,m7,c7,rfl,hcs,x7,g7⟩; have HCs := hid hcs; clear hcs; have S7 : Hid (KS q lo hi w7 g ⟨20,bT,[⟨nAl,now,((1 : UInt64).toNat : Int)⟩,⟨nAl,now,((2 : UInt64).toNat : Int)⟩],d4⟩) := X6.out.2.gb (gb_trans (by (repeat first | with_reducible exact World.grownBy.refl _ _ | with_reducible refine gb_alloc ?_ _ | with_reducible refine gb_drew1 ?_)) g7); have X7 : Hid (KX lo hi w7 (.slice ao m7 c7) (ticketBox (tF i0 now) tW i1)) := KX.made x7 (Nat.le_trans HVh.out (FR.size (lo := lo) (hi := hi) (a := V) (by (repeat first | with_reducible exact F3.out | with_reducible exact F2.out | with_reducible exact F1.out | with_reducible exact FR.refl _ _ _ | with_reducible refine FR.alloc ?_ _ | with_reducible refine FR.drew ?_ | with_reducible refine FR.stores ?_ _ _ (by first | exact Nat.le_refl _ | exact F1.out.size | exact F2.out.size | exact F3.out.size))))); (first | (have HZ3 := hid (Blk.grown HZ2.out g7 (by simp)); have HNe := hid (place_ne x7 (.inl HZ2.out.lt))) | (have HZ3 := hid (Blk.grown (Blk.new w6 zeroCame 44) g7 (by simp)); have HNe := hid (place_ne x7 (cb := w6.heap.size) (.inl (by rw [World.size_alloc]; omega)))) | (have HZ3 := hid (Blk.new w7 zeroCame 44); have HNe := hid (place_ne x7 (cb := w7.heap.size) (.inr (Nat.le_refl _))))); have hsz := came_size HCs.out; have hst := run_store_live (P := Tryz.prog) cs.toList (came_live HZ3.out) (by rw [Array.length_toList,hsz]; exact Nat.le_refl _) (came_one HCs.out); have F3 : Hid (FR lo hi V w7) := FR.trans (by (repeat first | with_reducible exact F3.out | with_reducible exact F2.out | with_reducible exact F1.out | with_reducible exact FR.refl _ _ _ | with_reducible refine FR.alloc ?_ _ | with_reducible refine FR.drew ?_ | with_reducible refine FR.stores ?_ _ _ (by first | exact Nat.le_refl _ | exact F1.out.size | exact F2.out.size | exact F3.out.size))) (FR.gb g7); clear x7 g7))
           all_goals go_wp2
           all_goals go_meet
           all_goals first
            | exact ⟨_,ao,m7,c7,rfl,rfl,(by first | exact HVh.out | exact Nat.le_trans HVh.out F1.out.size | exact Nat.le_trans HVh.out F2.out.size | exact Nat.le_trans HVh.out F3.out.size),came_put HZ3.out HCs.out,X7.out.cf (cfs w7 _ _) (fun b off n c e o e2 => HNe.out b off n c e e2),S7.out.cf (cfs w7 _ _) (fun b y e => .inr (by rw [e]; first | exact HVh.out | exact Nat.le_trans HVh.out F1.out.size | exact Nat.le_trans HVh.out F2.out.size | exact Nat.le_trans HVh.out F3.out.size)),(by (repeat first | with_reducible exact F3.out | with_reducible exact F2.out | with_reducible exact F1.out | with_reducible exact FR.refl _ _ _ | with_reducible refine FR.alloc ?_ _ | with_reducible refine FR.drew ?_ | with_reducible refine FR.stores ?_ _ _ (by first | exact Nat.le_refl _ | exact F1.out.size | exact F2.out.size | exact F3.out.size)))⟩
            | exact ⟨_,ao,m7,c7,rfl,rfl,(by first | exact HVh.out | exact Nat.le_trans HVh.out F1.out.size | exact Nat.le_trans HVh.out F2.out.size | exact Nat.le_trans HVh.out F3.out.size),came_put HZ3.out HCs.out,(X7.out.fr (FR.gb (gb_alloc0 w7 _))).cf (cfs _ _ _) (fun b off n c e o e2 => HNe.out b off n c e e2),(S7.out.gb (gb_alloc0 w7 _)).cf (cfs _ _ _) (fun b y e => .inr (by rw [e]; exact Nat.le_trans HVh.out F3.out.size)),(by (repeat first | with_reducible exact F3.out | with_reducible exact F2.out | with_reducible exact F1.out | with_reducible exact FR.refl _ _ _ | with_reducible refine FR.alloc ?_ _ | with_reducible refine FR.drew ?_ | with_reducible refine FR.stores ?_ _ _ (by first | exact Nat.le_refl _ | exact F1.out.size | exact F2.out.size | exact F3.out.size)))⟩
         case rest =>
          as_aux_lemma =>
           obtain ⟨b_W5,o_W5,n_W5,r_W5,rfl,rfl,hcb,hBc,hX,hS,hF⟩ := hcut
           obtain ⟨W5,hwc⟩ : ∃ W,Hid (W = wc) := ⟨_,hid rfl⟩
           obtain rfl := hwc.out
           clear hwc
           have HC_W5 := hid hcb
           have HB_W5 := hid hBc
           have HX_W5 := hid hX
           have HS_W5 := hid hS
           have HF_W5 := hid hF
           have HK_W5 := hid (HK_W4.out.fr hF)
           clear hcb hBc hX hS hF HA HM HLq HLr HC1 HVh y0 y1 HNow
           clear e6
           have HBd5 := hid (HB_W4.out.fr HF_W5.out (.inr HC_W2.out))
           have q1 : W5.cell? ⟨b_W5,1,none⟩ = some (.int .i64 128) := HB_W5.out.cell 1
           have q2 : W5.cell? ⟨b_W5,4,none⟩ = some (.int .i64 (now + 100)) := HB_W5.out.cell 4
           have q3 : W5.cell? ⟨b_W2,4,none⟩ = some (.int .i64 (now + 100)) := HBd5.out.cell 4
           obtain ⟨l0,hl0⟩ : ∃ k,drawAt d4 0 = k := ⟨_,rfl⟩
           obtain ⟨l1,hl1⟩ : ∃ k,drawAt d4 1 = k := ⟨_,rfl⟩
           obtain ⟨l2,hl2⟩ : ∃ k,drawAt d4 2 = k := ⟨_,rfl⟩
           obtain ⟨d5,hd5⟩ : ∃ d,d4.drop 24 = d := ⟨_,rfl⟩
           have HAp := hid (turn_plain [⟨nAl,now,((1 : UInt64).toNat : Int)⟩,⟨nAl,now,((2 : UInt64).toNat : Int)⟩] d4 now HNn.out.1 HNn.out.2 (by rw [HD4.out]; decide))
           rw [hl0,hl1,hl2,hd5] at HAp
           clear hl0 hl1 hl2 hd5
           have hbg : decide (now + 100 < now + 100) = false := by simp
           have HA := hid (HAp.out)
           have HM := hid (bT_ok [⟨nAl,now,((1 : UInt64).toNat : Int)⟩,⟨nAl,now,((2 : UInt64).toNat : Int)⟩] d4 (pf_now HIn.out _ (by simp)))
           have HLq : Hid ((firstReq nAl nTgs 1 0 0 0 0).length ≤ 300) := first_len _ _ _ _ _ _ _ (by decide) (by decide)
           have HLr : Hid ((giveBox 11 (tE l0 now) tT 1 1 1000002 3 l1 l2).length ≤ 900) := give_len _ _ _ _ _ _ _ _ _ len_al (by decide)
           have HNow := HIn
           have HC1 := hid (came_te l0 l1 l2 now HNn.out.1 (by have := HNn.out.2; omega))
           have HVh := hid HK_W5.out.size
           have y0 : W5.cell? ⟨w1.heap.size,0,none⟩ = some (.pointer p0) := HK_W5.out.house.cell 0
           have y1 : W5.cell? ⟨w1.heap.size,1,none⟩ = some (.pointer p1) := HK_W5.out.house.cell 1
           have HF1 := hid (first_tt lo hi 0 0 ⟨by decide,by decide⟩ ⟨by decide,by decide⟩)
           go_upto_region 27 with fail
           clear hbg q1 q2 q3
           go_cut [21,10] (fun p okv wx => ∃ (cb : Nat) (ao : Option Addr) (m c : Nat),p = .pointer (some ⟨cb,0,none⟩) ∧ okv = .bool true ∧ hi ≤ cb ∧ Blk wx cb (cameC (.slice ao m c) (tE l0 now) tT 1) ∧ KX lo hi wx (.slice ao m c) (ticketBox (tE l0 now) tT l1) ∧ KS q lo hi wx g ⟨20,bT,[⟨nAl,now,((1 : UInt64).toNat : Int)⟩,⟨nAl,now,((2 : UInt64).toNat : Int)⟩],d5⟩ ∧ FR lo hi W5 wx)
           case first =>
            as_aux_lemma =>
             obtain ⟨V,hV⟩ : ∃ V,Hid (V = W5) := ⟨_,hid rfl⟩
             obtain rfl := hV.out
             have HK := HK_W5
             have HS := HS_W5
             clear hV
             have HSk : Hid (∀ W,FR lo hi V W → (fun w' => w'.cell? ⟨w1.heap.size,0,none⟩ = some (.pointer p0) ∧ w'.cell? ⟨w1.heap.size,1,none⟩ = some (.pointer p1)) W) := fun W k => ⟨(HK.out.fr k).house.cell 0,(HK.out.fr k).house.cell 1⟩
             go_region_held3 (fun w' => w'.cell? ⟨w1.heap.size,0,none⟩ = some (.pointer p0) ∧ w'.cell? ⟨w1.heap.size,1,none⟩ = some (.pointer p1)) (exact HSk.out _ (by (repeat first | with_reducible exact F3.out | with_reducible exact F2.out | with_reducible exact F1.out | with_reducible exact FR.refl _ _ _ | with_reducible refine FR.alloc ?_ _ | with_reducible refine FR.drew ?_ | with_reducible refine FR.stores ?_ _ _ (by first | exact Nat.le_refl _ | exact F1.out.size | exact F2.out.size | exact F3.out.size)))) (first
              | (go_at_call 18; refine (HF1.out _ (Nat.le_trans HVh.out (FR.size (lo := lo) (hi := hi) (a := V) (by (repeat first | with_reducible exact F3.out | with_reducible exact F2.out | with_reducible exact F1.out | with_reducible exact FR.refl _ _ _ | with_reducible refine FR.alloc ?_ _ | with_reducible refine FR.drew ?_ | with_reducible refine FR.stores ?_ _ _ (by first | exact Nat.le_refl _ | exact F1.out.size | exact F2.out.size | exact F3.out.size)))))).mono ?_; rintro e w5 ⟨a5,m5,c5,rfl,x5,g5⟩; have G1 : Hid (V.grownBy w5 none) := gb_trans (by (repeat first | with_reducible exact World.grownBy.refl _ _ | with_reducible refine gb_alloc ?_ _ | with_reducible refine gb_drew1 ?_)) g5; have F1 : Hid (FR lo hi V w5) := FR.gb G1.out; have X5 := hid x5; (first | (have HZ1 := hid (Blk.grown (Blk.drew (Blk.new V zeroCame 44)) g5 (by simp))) | skip); clear x5 g5)
              | (go_at_call 17; refine (kans2 q lo hi g p0 p1 ⟨20,bT,[⟨nAl,now,((1 : UInt64).toNat : Int)⟩,⟨nAl,now,((2 : UInt64).toNat : Int)⟩],d4⟩ ⟨20,bT,[⟨nAl,now,((1 : UInt64).toNat : Int)⟩,⟨nAl,now,((2 : UInt64).toNat : Int)⟩],d5⟩ now (firstReq nAl nTgs 1 0 0 0 0) (giveBox 11 (tE l0 now) tT 1 1 1000002 3 l1 l2) (.slice a5 m5 c5) _ HD.out HA.out (HS.out.gb (by (repeat first | with_reducible exact G1.out | with_reducible exact World.grownBy.refl _ _ | with_reducible refine gb_alloc ?_ _ | with_reducible refine gb_drew1 ?_))) HM.out (X5.out.fr (FR.gb (by (repeat first | with_reducible exact World.grownBy.refl _ _ | with_reducible refine gb_alloc ?_ _ | with_reducible refine gb_drew1 ?_)))) HLq.out HLr.out HNow.out (Nat.le_trans HVh.out (FR.size (lo := lo) (hi := hi) (a := V) (by (repeat first | with_reducible exact F3.out | with_reducible exact F2.out | with_reducible exact F1.out | with_reducible exact FR.refl _ _ _ | with_reducible refine FR.alloc ?_ _ | with_reducible refine FR.drew ?_ | with_reducible refine FR.stores ?_ _ _ (by first | exact Nat.le_refl _ | exact F1.out.size | exact F2.out.size | exact F3.out.size)))))).mono ?_; rintro e w6 ⟨a6,m6,c6,rfl,x6,s6,f6⟩; have F2 : Hid (FR lo hi V w6) := FR.trans (by (repeat first | with_reducible exact F3.out | with_reducible exact F2.out | with_reducible exact F1.out | with_reducible exact FR.refl _ _ _ | with_reducible refine FR.alloc ?_ _ | with_reducible refine FR.drew ?_ | with_reducible refine FR.stores ?_ _ _ (by first | exact Nat.le_refl _ | exact F1.out.size | exact F2.out.size | exact F3.out.size))) f6; have X6 := hid (And.intro x6 s6); (first | (have HZ2 := hid (Blk.fr (lo := lo) (hi := hi) HZ1.out f6 (.inr HVh.out))) | (have HZ2 := hid (Blk.fr (lo := lo) (hi := hi) (Blk.new w5 zeroCame 44) f6 (.inr (Nat.le_trans HVh.out F1.out.size)))) | skip); clear x6 s6 f6)
              | (go_at_call 19; refine (HC1.out _ (.slice a6 m6 c6) (X6.out.1.fr (FR.gb (by (repeat first | with_reducible exact World.grownBy.refl _ _ | with_reducible refine gb_alloc ?_ _ | with_reducible refine gb_drew1 ?_)))).1 (KB.tab (HK.out.fr (by (repeat first | with_reducible exact F3.out | with_reducible exact F2.out | with_reducible exact F1.out | with_reducible exact FR.refl _ _ _ | with_reducible refine FR.alloc ?_ _ | with_reducible refine FR.drew ?_ | with_reducible refine FR.stores ?_ _ _ (by first | exact Nat.le_refl _ | exact F1.out.size | exact F2.out.size | exact F3.out.size)))) HTab.out)).mono ?_; rintro e w7 ⟨cs,ao,m7,c7,rfl,hcs,x7,g7⟩; have HCs := hid hcs; clear hcs; have S7 : Hid (KS q lo hi w7 g ⟨20,bT,[⟨nAl,now,((1 : UInt64).toNat : Int)⟩,⟨nAl,now,((2 : UInt64).toNat : Int)⟩],d5⟩) := X6.out.2.gb (gb_trans (by (repeat first | with_reducible exact World.grownBy.refl _ _ | with_reducible refine gb_alloc ?_ _ | with_reducible refine gb_drew1 ?_)) g7); have X7 : Hid (KX lo hi w7 (.slice ao m7 c7) (ticketBox (tE l0 now) tT l1)) := KX.made x7 (Nat.le_trans HVh.out (FR.size (lo := lo) (hi := hi) (a := V) (by (repeat first | with_reducible exact F3.out | with_reducible exact F2.out | with_reducible exact F1.out | with_reducible exact FR.refl _ _ _ | with_reducible refine FR.alloc ?_ _ | with_reducible refine FR.drew ?_ | with_reducible refine FR.stores ?_ _ _ (by first | exact Nat.le_refl _ | exact F1.out.size | exact F2.out.size | exact F3.out.size))))); (first | (have HZ3 := hid (Blk.grown HZ2.out g7 (by simp)); have HNe := hid (place_ne x7 (.inl HZ2.out.lt))) | (have HZ3 := hid (Blk.grown (Blk.new w6 zeroCame 44) g7 (by simp)); have HNe := hid (place_ne x7 (cb := w6.heap.size) (.inl (by rw [World.size_alloc]; omega)))) | (have HZ3 := hid (Blk.new w7 zeroCame 44); have HNe := hid (place_ne x7 (cb := w7.heap.size) (.inr (Nat.le_refl _))))); have hsz := came_size HCs.out; have hst := run_store_live (P := Tryz.prog) cs.toList (came_live HZ3.out) (by rw [Array.length_toList,hsz]; exact Nat.le_refl _) (came_one HCs.out); have F3 : Hid (FR lo hi V w7) := FR.trans (by (repeat first | with_reducible exact F3.out | with_reducible exact F2.out | with_reducible exact F1.out | with_reducible exact FR.refl _ _ _ | with_reducible refine FR.alloc ?_ _ | with_reducible refine FR.drew ?_ | with_reducible refine FR.stores ?_ _ _ (by first | exact Nat.le_refl _ | exact F1.out.size | exact F2.out.size | exact F3.out.size))) (FR.gb g7); clear x7 g7))
             all_goals go_wp2
             all_goals go_meet
             all_goals first
              | exact ⟨_,ao,m7,c7,rfl,rfl,(by first | exact HVh.out | exact Nat.le_trans HVh.out F1.out.size | exact Nat.le_trans HVh.out F2.out.size | exact Nat.le_trans HVh.out F3.out.size),came_put HZ3.out HCs.out,X7.out.cf (cfs w7 _ _) (fun b off n c e o e2 => HNe.out b off n c e e2),S7.out.cf (cfs w7 _ _) (fun b y e => .inr (by rw [e]; first | exact HVh.out | exact Nat.le_trans HVh.out F1.out.size | exact Nat.le_trans HVh.out F2.out.size | exact Nat.le_trans HVh.out F3.out.size)),(by (repeat first | with_reducible exact F3.out | with_reducible exact F2.out | with_reducible exact F1.out | with_reducible exact FR.refl _ _ _ | with_reducible refine FR.alloc ?_ _ | with_reducible refine FR.drew ?_ | with_reducible refine FR.stores ?_ _ _ (by first | exact Nat.le_refl _ | exact F1.out.size | exact F2.out.size | exact F3.out.size)))⟩
              | exact ⟨_,ao,m7,c7,rfl,rfl,(by first | exact HVh.out | exact Nat.le_trans HVh.out F1.out.size | exact Nat.le_trans HVh.out F2.out.size | exact Nat.le_trans HVh.out F3.out.size),came_put HZ3.out HCs.out,(X7.out.fr (FR.gb (gb_alloc0 w7 _))).cf (cfs _ _ _) (fun b off n c e o e2 => HNe.out b off n c e e2),(S7.out.gb (gb_alloc0 w7 _)).cf (cfs _ _ _) (fun b y e => .inr (by rw [e]; exact Nat.le_trans HVh.out F3.out.size)),(by (repeat first | with_reducible exact F3.out | with_reducible exact F2.out | with_reducible exact F1.out | with_reducible exact FR.refl _ _ _ | with_reducible refine FR.alloc ?_ _ | with_reducible refine FR.drew ?_ | with_reducible refine FR.stores ?_ _ _ (by first | exact Nat.le_refl _ | exact F1.out.size | exact F2.out.size | exact F3.out.size)))⟩
           case rest =>
            as_aux_lemma =>
             obtain ⟨b_W6,o_W6,n_W6,r_W6,rfl,rfl,hcb,hBc,hX,hS,hF⟩ := hcut
             obtain ⟨W6,hwc⟩ : ∃ W,Hid (W = wc) := ⟨_,hid rfl⟩
             obtain rfl := hwc.out
             clear hwc
             have HC_W6 := hid hcb
             have HB_W6 := hid hBc
             have HX_W6 := hid hX
             have HS_W6 := hid hS
             have HF_W6 := hid hF
             have HK_W6 := hid (HK_W5.out.fr hF)
             clear hcb hBc hX hS hF HA HM HLq HLr HC1 HVh y0 y1 HNow HF1
             have e0 : W6.cell? ⟨b_W6,0,none⟩ = some (.slice o_W6 n_W6 r_W6) := HB_W6.out.cell 0
             have e6 : W6.cell? ⟨b_W6,6,none⟩ = some (.int .u64 (l0.toNat : Int)) := HB_W6.out.cell 6
             have HN1 := hid (next_tt lo hi (tE l0 now) l1 3 3 (.slice o_W6 n_W6 r_W6) now 64 nWeb W6 HK_W6.out.size HX_W6.out rfl (by decide) HIn.out ⟨by decide,by decide⟩ rfl (by decide))
             go_wp2_with fail
             refine HN1.out.mono ?_
             clear HN1
             rintro e W7 ⟨a_W7,m_W7,c_W7,rfl,x1,g1⟩
             have HG_W7 := hid g1
             have HQ_W7 := hid x1
             have HK_W7 := hid (HK_W6.out.fr (FR.gb g1))
             clear x1 g1
             have HS_W7 := hid (HS_W6.out.gb HG_W7.out)
             clear e0 e6
             have y0 : W7.cell? ⟨w1.heap.size,0,none⟩ = some (.pointer p0) := HK_W7.out.house.cell 0
             have y1 : W7.cell? ⟨w1.heap.size,1,none⟩ = some (.pointer p1) := HK_W7.out.house.cell 1
             have HLq : Hid ((nextReq (ticketBox (tE l0 now) tT l1) (sealedProof (tE l0 now) 3 now) nWeb 1 0 64).length ≤ 300) := nextq_len _ _ _ _ _ _ _ _ _ len_al (by decide) (by decide)
             have HAn := hid (kans2 q lo hi g p0 p1 ⟨20,bT,[⟨nAl,now,((1 : UInt64).toNat : Int)⟩,⟨nAl,now,((2 : UInt64).toNat : Int)⟩],d5⟩ ⟨20,bT,[⟨nAl,now,((1 : UInt64).toNat : Int)⟩,⟨nAl,now,((2 : UInt64).toNat : Int)⟩,⟨nAl,now,((3 : UInt64).toNat : Int)⟩],d5⟩ now (nextReq (ticketBox (tE l0 now) tT l1) (sealedProof (tE l0 now) 3 now) nWeb 1 0 64) (refusalBox now 13) (.slice a_W7 m_W7 c_W7) W7 HD.out (turn_bad d5 l0 l1 now HNn.out.1 HNn.out.2) HS_W7.out (bT_ok [⟨nAl,now,((1 : UInt64).toNat : Int)⟩,⟨nAl,now,((2 : UInt64).toNat : Int)⟩] d5 (pf_now HIn.out _ (by simp))) HQ_W7.out HLq.out (refusal_len _ _) HIn.out HK_W7.out.size)
             go_wp2_with fail
             refine HAn.out.mono ?_
             clear HAn HLq
             rintro e W8 ⟨a_W8,m_W8,c_W8,rfl,x1,s1,f1⟩
             have HR8 := hid x1
             have HK8 := hid (HK_W7.out.fr f1)
             clear x1 s1 f1 y0 y1
             have HCo := hid (kcode_any now 13 (.slice a_W8 m_W8 c_W8) W8 HIn.out ⟨by decide,by decide⟩ HR8.out.1 (HK8.out.tab HTab.out))
             go_wp2_with fail
             refine HCo.out.mono ?_
             clear HCo
             rintro e W9 ⟨rfl,g1⟩
             have HK9 := hid (HK8.out.fr (FR.gb g1))
             clear g1
             go_wp2
             go_ret
             exact ⟨rfl,HK9.out.below⟩
 | true =>
  as_aux_lemma =>
   have hb2 : (which.tmod 2 == 0) = false := by simpa using hB
   go_upto_region 9 with fail
   refine wp_genK (fun V => KB w lo hi w1.heap.size #[.pointer p0,.pointer p1,.int .i64 20,.slice av 480 cv,.int .i64 100,.int .i64 100,.int .i64 100] V ∧ KS q lo hi V g ⟨20,bT,[],ds⟩) ⟨⟨(gb_below HW1.out.2.2.2).trans ((gb_below (World.grownBy_alloc w1 _ none)).mono HW1.out.2.2.2.size),Nat.le_trans HW1.out.2.2.1 (World.grownBy_alloc w1 _ none).size,Blk.new w1 _ _,HW1.out.2.2.1,HW1.out.2.1,Nat.le_of_lt (Nat.lt_of_le_of_lt HW1.out.1.1 HW1.out.1.2.1)⟩,HW1.out.1.gb (World.grownBy_alloc w1 _ none)⟩ ?_
   rintro V ⟨hK,hS⟩
   have HK := hid hK
   have HS := hid hS
   have HVh := hid hK.size
   have y0 : V.cell? ⟨w1.heap.size,0,none⟩ = some (.pointer p0) := hK.house.cell 0
   have y1 : V.cell? ⟨w1.heap.size,1,none⟩ = some (.pointer p1) := hK.house.cell 1
   clear hK hS
   have HA := HA8
   have HLq : Hid ((firstReq nAl nTgs 1 1050 0 0 8).length ≤ 300) := first_len _ _ _ _ _ _ _ (by decide) (by decide)
   have HLr : Hid ((giveBox 11 (tP k0) tT 1 1 1000002 3 k1 k2).length ≤ 900) := give_len _ _ _ _ _ _ _ _ _ len_al (by decide)
   have HF1 := hid (first_tt lo hi 1050 8 ⟨by decide,by decide⟩ ⟨by decide,by decide⟩)
   have HC1 := hid (came_tp k0 k1 k2)
   go_cut [13,10] (fun p okv wx => ∃ (cb : Nat) (ao : Option Addr) (m c : Nat),p = .pointer (some ⟨cb,0,none⟩) ∧ okv = .bool true ∧ hi ≤ cb ∧ Blk wx cb (cameC (.slice ao m c) (tP k0) tT 1) ∧ KX lo hi wx (.slice ao m c) (ticketBox (tP k0) tT k1) ∧ KS q lo hi wx g ⟨20,bT,[],d2⟩ ∧ FR lo hi V wx)
   case first =>
    as_aux_lemma =>
     have HSk : Hid (∀ W,FR lo hi V W → (fun w' => w'.cell? ⟨w1.heap.size,0,none⟩ = some (.pointer p0) ∧ w'.cell? ⟨w1.heap.size,1,none⟩ = some (.pointer p1)) W) := fun W k => ⟨(HK.out.fr k).house.cell 0,(HK.out.fr k).house.cell 1⟩
     go_region_held3 (fun w' => w'.cell? ⟨w1.heap.size,0,none⟩ = some (.pointer p0) ∧ w'.cell? ⟨w1.heap.size,1,none⟩ = some (.pointer p1)) (exact HSk.out _ (by (repeat first | with_reducible exact F3.out | with_reducible exact F2.out | with_reducible exact F1.out | with_reducible exact FR.refl _ _ _ | with_reducible refine FR.alloc ?_ _ | with_reducible refine FR.drew ?_ | with_reducible refine FR.stores ?_ _ _ (by first | exact Nat.le_refl _ | exact F1.out.size | exact F2.out.size | exact F3.out.size)))) (first
      | (go_at_call 18; refine (HF1.out _ (Nat.le_trans HVh.out (FR.size (lo := lo) (hi := hi) (a := V) (by (repeat first | with_reducible exact F3.out | with_reducible exact F2.out | with_reducible exact F1.out | with_reducible exact FR.refl _ _ _ | with_reducible refine FR.alloc ?_ _ | with_reducible refine FR.drew ?_ | with_reducible refine FR.stores ?_ _ _ (by first | exact Nat.le_refl _ | exact F1.out.size | exact F2.out.size | exact F3.out.size)))))).mono ?_; rintro e w5 ⟨a5,m5,c5,rfl,x5,g5⟩; have G1 : Hid (V.grownBy w5 none) := gb_trans (by (repeat first | with_reducible exact World.grownBy.refl _ _ | with_reducible refine gb_alloc ?_ _ | with_reducible refine gb_drew1 ?_)) g5; have F1 : Hid (FR lo hi V w5) := FR.gb G1.out; have X5 := hid x5; (first | (have HZ1 := hid (Blk.grown (Blk.drew (Blk.new V zeroCame 44)) g5 (by simp))) | skip); clear x5 g5)
      | (go_at_call 17; refine (kans2 q lo hi g p0 p1 ⟨20,bT,[],ds⟩ ⟨20,bT,[],d2⟩ 1000 (firstReq nAl nTgs 1 1050 0 0 8) (giveBox 11 (tP k0) tT 1 1 1000002 3 k1 k2) (.slice a5 m5 c5) _ HD.out HA.out (HS.out.gb (by (repeat first | with_reducible exact G1.out | with_reducible exact World.grownBy.refl _ _ | with_reducible refine gb_alloc ?_ _ | with_reducible refine gb_drew1 ?_))) HM.out (X5.out.fr (FR.gb (by (repeat first | with_reducible exact World.grownBy.refl _ _ | with_reducible refine gb_alloc ?_ _ | with_reducible refine gb_drew1 ?_)))) HLq.out HLr.out HNow.out (Nat.le_trans HVh.out (FR.size (lo := lo) (hi := hi) (a := V) (by (repeat first | with_reducible exact F3.out | with_reducible exact F2.out | with_reducible exact F1.out | with_reducible exact FR.refl _ _ _ | with_reducible refine FR.alloc ?_ _ | with_reducible refine FR.drew ?_ | with_reducible refine FR.stores ?_ _ _ (by first | exact Nat.le_refl _ | exact F1.out.size | exact F2.out.size | exact F3.out.size)))))).mono ?_; rintro e w6 ⟨a6,m6,c6,rfl,x6,s6,f6⟩; have F2 : Hid (FR lo hi V w6) := FR.trans (by (repeat first | with_reducible exact F3.out | with_reducible exact F2.out | with_reducible exact F1.out | with_reducible exact FR.refl _ _ _ | with_reducible refine FR.alloc ?_ _ | with_reducible refine FR.drew ?_ | with_reducible refine FR.stores ?_ _ _ (by first | exact Nat.le_refl _ | exact F1.out.size | exact F2.out.size | exact F3.out.size))) f6; have X6 := hid (And.intro x6 s6); (first | (have HZ2 := hid (Blk.fr (lo := lo) (hi := hi) HZ1.out f6 (.inr HVh.out))) | (have HZ2 := hid (Blk.fr (lo := lo) (hi := hi) (Blk.new w5 zeroCame 44) f6 (.inr (Nat.le_trans HVh.out F1.out.size)))) | skip); clear x6 s6 f6)
      | (go_at_call 19; refine (HC1.out _ (.slice a6 m6 c6) (X6.out.1.fr (FR.gb (by (repeat first | with_reducible exact World.grownBy.refl _ _ | with_reducible refine gb_alloc ?_ _ | with_reducible refine gb_drew1 ?_)))).1 (KB.tab (HK.out.fr (by (repeat first | with_reducible exact F3.out | with_reducible exact F2.out | with_reducible exact F1.out | with_reducible exact FR.refl _ _ _ | with_reducible refine FR.alloc ?_ _ | with_reducible refine FR.drew ?_ | with_reducible refine FR.stores ?_ _ _ (by first | exact Nat.le_refl _ | exact F1.out.size | exact F2.out.size | exact F3.out.size)))) HTab.out)).mono ?_; rintro e w7 ⟨cs,ao,m7,c7,rfl,hcs,x7,g7⟩; have HCs := hid hcs; clear hcs; have S7 : Hid (KS q lo hi w7 g ⟨20,bT,[],d2⟩) := X6.out.2.gb (gb_trans (by (repeat first | with_reducible exact World.grownBy.refl _ _ | with_reducible refine gb_alloc ?_ _ | with_reducible refine gb_drew1 ?_)) g7); have X7 : Hid (KX lo hi w7 (.slice ao m7 c7) (ticketBox (tP k0) tT k1)) := KX.made x7 (Nat.le_trans HVh.out (FR.size (lo := lo) (hi := hi) (a := V) (by (repeat first | with_reducible exact F3.out | with_reducible exact F2.out | with_reducible exact F1.out | with_reducible exact FR.refl _ _ _ | with_reducible refine FR.alloc ?_ _ | with_reducible refine FR.drew ?_ | with_reducible refine FR.stores ?_ _ _ (by first | exact Nat.le_refl _ | exact F1.out.size | exact F2.out.size | exact F3.out.size))))); (first | (have HZ3 := hid (Blk.grown HZ2.out g7 (by simp)); have HNe := hid (place_ne x7 (.inl HZ2.out.lt))) | (have HZ3 := hid (Blk.grown (Blk.new w6 zeroCame 44) g7 (by simp)); have HNe := hid (place_ne x7 (cb := w6.heap.size) (.inl (by rw [World.size_alloc]; omega)))) | (have HZ3 := hid (Blk.new w7 zeroCame 44); have HNe := hid (place_ne x7 (cb := w7.heap.size) (.inr (Nat.le_refl _))))); have hsz := came_size HCs.out; have hst := run_store_live (P := Tryz.prog) cs.toList (came_live HZ3.out) (by rw [Array.length_toList,hsz]; exact Nat.le_refl _) (came_one HCs.out); have F3 : Hid (FR lo hi V w7) := FR.trans (by (repeat first | with_reducible exact F3.out | with_reducible exact F2.out | with_reducible exact F1.out | with_reducible exact FR.refl _ _ _ | with_reducible refine FR.alloc ?_ _ | with_reducible refine FR.drew ?_ | with_reducible refine FR.stores ?_ _ _ (by first | exact Nat.le_refl _ | exact F1.out.size | exact F2.out.size | exact F3.out.size))) (FR.gb g7); clear x7 g7))
     all_goals go_wp2
     all_goals go_meet
     all_goals first
      | exact ⟨_,ao,m7,c7,rfl,rfl,(by first | exact HVh.out | exact Nat.le_trans HVh.out F1.out.size | exact Nat.le_trans HVh.out F2.out.size | exact Nat.le_trans HVh.out F3.out.size),came_put HZ3.out HCs.out,X7.out.cf (cfs w7 _ _) (fun b off n c e o e2 => HNe.out b off n c e e2),S7.out.cf (cfs w7 _ _) (fun b y e => .inr (by rw [e]; first | exact HVh.out | exact Nat.le_trans HVh.out F1.out.size | exact Nat.le_trans HVh.out F2.out.size | exact Nat.le_trans HVh.out F3.out.size)),(by (repeat first | with_reducible exact F3.out | with_reducible exact F2.out | with_reducible exact F1.out | with_reducible exact FR.refl _ _ _ | with_reducible refine FR.alloc ?_ _ | with_reducible refine FR.drew ?_ | with_reducible refine FR.stores ?_ _ _ (by first | exact Nat.le_refl _ | exact F1.out.size | exact F2.out.size | exact F3.out.size)))⟩
      | exact ⟨_,ao,m7,c7,rfl,rfl,(by first | exact HVh.out | exact Nat.le_trans HVh.out F1.out.size | exact Nat.le_trans HVh.out F2.out.size | exact Nat.le_trans HVh.out F3.out.size),came_put HZ3.out HCs.out,(X7.out.fr (FR.gb (gb_alloc0 w7 _))).cf (cfs _ _ _) (fun b off n c e o e2 => HNe.out b off n c e e2),(S7.out.gb (gb_alloc0 w7 _)).cf (cfs _ _ _) (fun b y e => .inr (by rw [e]; exact Nat.le_trans HVh.out F3.out.size)),(by (repeat first | with_reducible exact F3.out | with_reducible exact F2.out | with_reducible exact F1.out | with_reducible exact FR.refl _ _ _ | with_reducible refine FR.alloc ?_ _ | with_reducible refine FR.drew ?_ | with_reducible refine FR.stores ?_ _ _ (by first | exact Nat.le_refl _ | exact F1.out.size | exact F2.out.size | exact F3.out.size)))⟩
   case rest =>
    as_aux_lemma =>
     obtain ⟨cb,ao,m,c,rfl,rfl,hcb,hBc,hX,hS,hF⟩ := hcut
     have HCbh := hid hcb
     have HBc := hid hBc
     have HX1 := hid hX
     have HS1 := hid hS
     have HK1 := hid (HK.out.fr hF)
     clear hcb hBc hX hS hF HA HM HLq HLr HF1 HC1 HK HS HVh y0 y1 HW1 HA5 HA8 HNow
     have hpl := pickN_lt wait 150 (by decide)
     obtain ⟨P,hP⟩ : ∃ P : Int,(pickN wait 150 : Int) = P := ⟨_,rfl⟩
     have hP0 : 0 ≤ P := by omega
     have hP1 : P ≤ 149 := by omega
     have HPk : Hid (∀ W,Calls Tryz.prog 14 #[.int .i64 wait,.int .i64 150] W fun e w' => e = .returned (.int .i64 P) ∧ W = w') := fun W => by
      have := kpick_any wait 150 W HWt.out (by decide)
      rw [show (150 : Int).toNat = 150 from rfl,hP] at this
      exact this
     obtain ⟨hcs,hhcs⟩ : ∃ x : Array Value,#[.pointer p0,.pointer p1,.int .i64 20,.slice av 480 cv,.int .i64 100,.int .i64 100,.int .i64 100] = x := ⟨_,rfl⟩
     obtain ⟨ccs,hccs⟩ : ∃ x : Array Value,#[.slice ao m c,.int .i64 56,.int .i64 1000,.int .i64 1050,.int .i64 1150,.int .i64 0,.int .u64 (k0.toNat : Int),.string ⟨#[97,108]⟩,.int .i64 0,.int .i64 56,.int .i64 1000,.int .i64 1050,.int .i64 1150,.int .i64 0,.int .u64 (k0.toNat : Int),.string ⟨#[116,103,115]⟩,.int .i64 1] = x := ⟨_,rfl⟩
     have HPo : Hid (∀ W,wc.grownBy W none → Calls Tryz.prog 26 #[.agg hcs.toList.toArray,.agg ccs.toList.toArray,.int .i64 (1000 + P)] W fun e w' => e = .returned (.bool true) ∧ Below w.heap.size w w' ∧ FR lo hi W w') := fun W k => by
      rw [show hcs.toList.toArray = hcs by simp,show ccs.toList.toArray = ccs by simp,← hhcs,← hccs]
      exact post_any q lo hi g p0 p1 av cv d2 ao m c k0 k1 (1000 + P) w W HD.out (HS1.out.gb k) (HX1.out.fr (FR.gb k)) (Nat.le_trans HK1.out.size k.size) (HK1.out.fr (FR.gb k)).below HK1.out.base HTab.out HD2.out (by omega) (by omega)
     clear hpl hP
     have HR1 : Hid (∀ W,FR lo hi wc W → W.rangeAt w1.heap.size 0 hcs.toList) := fun W k => by
      have a1 := (HK1.out.fr k).house
      rw [hhcs] at a1
      exact a1.range
     have HR2 : Hid (∀ W,FR lo hi wc W → W.rangeAt cb 0 ccs.toList) := fun W k => by
      have a2 := HBc.out.fr k (.inr HCbh.out)
      rw [show cameC (.slice ao m c) (tP k0) tT 1 = ccs from hccs] at a2
      exact a2.range
     have HZ1 : Hid ((Tryz.prog.info? 34).map (·.size) = some hcs.toList.length) := by rw [← hhcs]; show _ = some 7; kernel_rfl
     have HZ2 : Hid ((Tryz.prog.info? 44).map (·.size) = some ccs.toList.length) := by rw [← hccs]; show _ = some 17; kernel_rfl
     clear hhcs hccs
     have hw : IntKind.i64.wrap (1000 + P) = 1000 + P := by rw [IntKind.wrap_i64]; omega
     go_wp2_with fail
     refine wp_region_held_drew (S := fun w' => FR lo hi wc w') (by kernel_rfl) (FR.refl _ _ _).drew (fun hHeld => ?_)
     refine take_at (i := 0) (t := 51) (.agg hcs.toList.toArray) rfl rfl (by kernel_rfl) (by kernel_rfl) (by kernel_rfl) (fun _ _ _ h => h) (yieldsIf_load_mid (by rfl) _ _ rfl w1.heap.size 0 rfl hcs.toList _ HR1.out Tryz.underlying34 rfl HZ1.out) (by assumption) ?_
     simp only [List.setIfInBounds_toArray,List.set_cons_zero,List.set_cons_succ]
     refine take_at (i := 1) (t := 52) (.agg ccs.toList.toArray) rfl rfl (by kernel_rfl) (by kernel_rfl) (by kernel_rfl) (fun _ _ _ h => h) (yieldsIf_load_mid (by rfl) _ _ rfl cb 0 rfl ccs.toList _ HR2.out Tryz.underlying44 rfl HZ2.out) (by assumption) ?_
     simp only [List.setIfInBounds_toArray,List.set_cons_zero,List.set_cons_succ]
     refine take_at (i := 2) (t := 53) (.int .i64 wait) rfl rfl (by kernel_rfl) (by kernel_rfl) (by kernel_rfl) (fun _ _ _ h => h) (Or.inl ⟨by rfl,fun w' hSw => by clear hSw; go_simp⟩) (by assumption) ?_
     simp only [List.setIfInBounds_toArray,List.set_cons_zero,List.set_cons_succ]
     refine ready_one (i := 3) rfl (by kernel_rfl) (fun K hK => ?_)
     go_simp
     refine (HPk.out _).mono ?_
     rintro e w8 ⟨rfl,rfl⟩
     go_wp2_with fail
     refine hK.out _ _ hHeld (fun hHeld => ?_)
     clear hK K
     refine take_at (i := 4) (t := 55) (.int .i64 (1000 + P)) rfl rfl (by kernel_rfl) (by kernel_rfl) (by kernel_rfl) (fun _ _ _ h => h) (Or.inl ⟨by rfl,fun w' hSw => by clear hSw; go_simp⟩) (by assumption) ?_
     simp only [List.setIfInBounds_toArray,List.set_cons_zero,List.set_cons_succ]
     refine ready_one (i := 5) rfl (by kernel_rfl) (fun K hK => ?_)
     go_simp
     refine (HPo.out _ (gb_drew1 (World.grownBy.refl _ _))).mono ?_
     rintro e w9 ⟨rfl,b9,f9⟩
     have HB9 := hid b9
     have HF9 := hid (FR.trans (FR.refl lo hi wc).drew f9)
     clear b9 f9
     go_wp2_with fail
     refine hK.out _ _ HF9.out (fun hHeld => ?_)
     clear hK K
     refine take_at (i := 6) (t := 8) (.bool true) rfl rfl (by kernel_rfl) (by kernel_rfl) (by kernel_rfl) (fun _ _ _ h => h) (Or.inl ⟨by rfl,fun w' hSw => by clear hSw; go_simp⟩) (by assumption) ?_
     simp only [List.setIfInBounds_toArray,List.set_cons_zero,List.set_cons_succ]
     refine wpAnyH_done (by kernel_rfl) ?_ _
     go_wp2
     go_ret
     exact ⟨rfl,HB9.out⟩
end Go.Proofs.YtbanfbpfapjfcaaGreatDoor
