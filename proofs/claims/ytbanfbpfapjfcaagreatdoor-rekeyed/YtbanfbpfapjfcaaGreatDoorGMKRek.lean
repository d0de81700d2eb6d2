/-
  
-/
import Derived.Test.YtbanfbpfapjfcaaGreatDoorGMKHouse
namespace Go.Proofs.YtbanfbpfapjfcaaGreatDoor
open Go.RowKit
set_option maxRecDepth 100000
theorem kadm2 (q : Bool) (lo hi g n : Nat) (p0 p1 : Option Addr) (M : DM) (es : List BE) (r : Int) (kind K : Int) (nm : List UInt8) (key : UInt64) (w : World) (hd : deskV q g = #[.pointer p0,.pointer p1]) (hA : admB M.book ⟨kind,nm,key,0,0,0,0⟩ = (es,r)) (hS : KS q lo hi w g M) (hok : BookOk n M.book) (hn : n ≤ 4611686018427387904) (hl : nm.length ≤ 9223372036854775807) (hk : (kind == 0) = false) (hK : K = (key.toNat : Int)) :
  Calls Tryz.prog 25 #[.agg #[.pointer p0,.pointer p1],.agg #[.int .i64 kind,.string ⟨nm.toArray⟩,.int .u64 K,.int .i64 0,.int .i64 0,.int .i64 0,.int .i64 0]] w fun e w' => e = .returned (.int .i64 r) ∧ KS q lo hi w' g { M with book := es } ∧ FR lo hi w w' := by
 rw [hK,← hd]
 exact kadm_any q lo hi g n M es r ⟨kind,nm,key,0,0,0,0⟩ w hA hS hok hn (by show (_ : Int) ≤ 0; decide) (by show (0 : Int) ≤ _; decide) hl hk
theorem came_rek (n : Nat) (hn : n = 0 ∨ n = 1) (k0 k1 k2 k3 : UInt64) (N K : Int) (W : World) (v : Value) (hv : KH W v (giveBox 13 ⟨0,k1,nAl,1000,1000,6000,0⟩ (rkW n) 2 0 k0 5 k2 k3)) (ht : TabHere W) (hN : N = (rkW n).number) (hK : K = ((rkW n).key.toNat : Int)) : Calls Tryz.prog 19 #[v,.int .i64 13,.string ⟨#[97,108]⟩,.string ⟨#[119,101,98]⟩,.int .i64 N,.int .u64 K,.int .i64 0,.int .u64 (k0.toNat : Int),.int .i64 5] W fun e w' => ∃ cs,e = .returned (.tuple #[.agg cs,.bool true]) ∧ W.grownBy w' none := by
 have hnm : (rkW n).name = nWeb := by rcases hn with rfl | rfl <;> rfl
 have h := kcame3 13 ⟨0,k1,nAl,1000,1000,6000,0⟩ (rkW n) 2 0 5 k0 5 k2 k3 K (k0.toNat : Int) v W rfl rfl len_al (by rw [hnm]; decide) ⟨by decide,by decide⟩ (web_in k1 1000 ⟨by decide,by decide⟩) (by rcases hn with rfl | rfl <;> exact ⟨by decide,by decide⟩) ⟨by decide,by decide⟩ ⟨by decide,by decide⟩ hv ht hK rfl
 rw [hnm,← hN] at h
 refine h.mono ?_
 rintro e w' ⟨cs,ao,m,c,rfl,_,_,hg⟩
 exact ⟨cs,rfl,hg⟩
set_option maxHeartbeats 4000000 in
theorem rekeyed_any (q : Bool) (seed times : Int) (gone : Bool) (w : World) (_h1 : -9223372036854775808 ≤ seed ∧ seed ≤ 9223372036854775807) (h2 : -9223372036854775808 ≤ times ∧ times ≤ 9223372036854775807) (htab : TabHere w) :
  Calls Tryz.prog 11 #[.bool q,.int .i64 seed,.int .i64 times,.bool gone] w fun e w' => e = .returned (.bool true) ∧ Below w.heap.size w w' := by
 have HH := hid (khouse_ok q 100 seed 5000 5000 5000 w (by decide) (by decide) (by decide) (by decide) (by decide) (by decide) (by decide) (by decide))
 rw [show ((pickN 100 301 : Nat) : Int) = 100 from rfl] at HH
 have HTab := hid htab
 have HTi := hid h2
 clear h2 htab
 go_enter Tryz.func11,Tryz.ntmps11
 go_wp2_with fail
 refine HH.out.mono ?_
 clear HH
 rintro e w1 ⟨p0,p1,av,cv,ds,g,lo,hi,rfl,hd,hS,hl,hX,hlo,hhi,hg⟩
 have HD := hid hd
 have HL := hid hl
 have HW1 := hid (And.intro hS (And.intro hlo (And.intro hhi hg)))
 clear hd hS hl hX hlo hhi hg
 go_upto_region 4 with fail
 refine wp_genK (fun V => KB w lo hi w1.heap.size #[.pointer p0,.pointer p1,.int .i64 100,.slice av 480 cv,.int .i64 5000,.int .i64 5000,.int .i64 5000] V ∧ KS q lo hi V g ⟨100,bO,[],ds⟩) ⟨⟨(gb_below HW1.out.2.2.2).trans ((gb_below (World.grownBy_alloc w1 _ none)).mono HW1.out.2.2.2.size),Nat.le_trans HW1.out.2.2.1 (World.grownBy_alloc w1 _ none).size,Blk.new w1 _ _,HW1.out.2.2.1,HW1.out.2.1,Nat.le_of_lt (Nat.lt_of_le_of_lt HW1.out.1.1 HW1.out.1.2.1)⟩,HW1.out.1.gb (World.grownBy_alloc w1 _ none)⟩ ?_
 rintro V ⟨hK,hS⟩
 have HK := hid hK
 have HS := hid hS
 have HVh := hid hK.size
 have y0 : V.cell? ⟨w1.heap.size,0,none⟩ = some (.pointer p0) := hK.house.cell 0
 have y1 : V.cell? ⟨w1.heap.size,1,none⟩ = some (.pointer p1) := hK.house.cell 1
 clear hK hS
 obtain ⟨k0,hk0⟩ : ∃ k,drawAt ds 0 = k := ⟨_,rfl⟩
 obtain ⟨k1,hk1⟩ : ∃ k,drawAt ds 1 = k := ⟨_,rfl⟩
 obtain ⟨k2,hk2⟩ : ∃ k,drawAt ds 2 = k := ⟨_,rfl⟩
 have HA := hid (once_first 100 [] ds (by decide) (by decide) (by rw [HL.out]; decide))
 rw [hk0,hk1,hk2] at HA
 clear hk0 hk1 hk2
 have HM := hid (bO_ok 100 [] ds (by decide) (by decide) (by simp))
 have HLq : Hid ((firstReq nAl nTgs 1 0 0 0 0).length ≤ 300) := first_len _ _ _ _ _ _ _ (by decide) (by decide)
 have HLr : Hid ((giveBox 11 (oT k0) eT 1 1 1000002 3 k1 k2).length ≤ 900) := give_len _ _ _ _ _ _ _ _ _ len_al (by decide)
 have HNow : Hid (In64 1000) := ⟨by decide,by decide⟩
 have HF1 := hid (first_al lo hi)
 have HC1 := hid (came_al k0 k1 k2)
 go_cut [11,10] (fun p okv wx => ∃ (cb : Nat) (ao : Option Addr) (m c : Nat),p = .pointer (some ⟨cb,0,none⟩) ∧ okv = .bool true ∧ hi ≤ cb ∧ Blk wx cb (cameC (.slice ao m c) (oT k0) eT 1) ∧ KX lo hi wx (.slice ao m c) (ticketBox (oT k0) eT k1) ∧ KS q lo hi wx g ⟨100,bO,[],ds.drop 24⟩ ∧ KB w lo hi w1.heap.size #[.pointer p0,.pointer p1,.int .i64 100,.slice av 480 cv,.int .i64 5000,.int .i64 5000,.int .i64 5000] wx)
 case first =>
  have HSk : Hid (∀ W,FR lo hi V W → (fun w' => w'.cell? ⟨w1.heap.size,0,none⟩ = some (.pointer p0) ∧ w'.cell? ⟨w1.heap.size,1,none⟩ = some (.pointer p1)) W) := fun W k => ⟨(HK.out.fr k).house.cell 0,(HK.out.fr k).house.cell 1⟩
  go_region_held3 (fun w' => w'.cell? ⟨w1.heap.size,0,none⟩ = some (.pointer p0) ∧ w'.cell? ⟨w1.heap.size,1,none⟩ = some (.pointer p1)) (exact HSk.out _ (by (repeat first | with_reducible exact F3.out | with_reducible exact F2.out | with_reducible exact F1.out | with_reducible exact FR.refl _ _ _ | with_reducible refine FR.alloc ?_ _ | with_reducible refine FR.drew ?_ | with_reducible refine FR.stores ?_ _ _ (by first | exact Nat.le_refl _ | exact F1.out.size | exact F2.out.size | exact F3.out.size)))) (first
   | (go_at_call 18; refine (HF1.out _ (Nat.le_trans HVh.out (FR.size (lo := lo) (hi := hi) (a := V) (by (repeat first | with_reducible exact F3.out | with_reducible exact F2.out | with_reducible exact F1.out | with_reducible exact FR.refl _ _ _ | with_reducible refine FR.alloc ?_ _ | with_reducible refine FR.drew ?_ | with_reducible refine FR.stores ?_ _ _ (by first | exact Nat.le_refl _ | exact F1.out.size | exact F2.out.size | exact F3.out.size)))))).mono ?_; rintro e w5 ⟨a5,m5,c5,rfl,x5,g5⟩; have G1 : Hid (V.grownBy w5 none) := gb_trans (by (repeat first | with_reducible exact World.grownBy.refl _ _ | with_reducible refine gb_alloc ?_ _ | with_reducible refine gb_drew1 ?_)) g5; have F1 : Hid (FR lo hi V w5) := FR.gb G1.out; have X5 := hid x5; (first | (have HZ1 := hid (Blk.grown (Blk.drew (Blk.new V zeroCame 44)) g5 (by simp))) | skip); clear x5 g5)
   | (go_at_call 17; refine (kans2 q lo hi g p0 p1 ⟨100,bO,[],ds⟩ ⟨100,bO,[],ds.drop 24⟩ 1000 (firstReq nAl nTgs 1 0 0 0 0) (giveBox 11 (oT k0) eT 1 1 1000002 3 k1 k2) (.slice a5 m5 c5) _ HD.out HA.out (HS.out.gb (by (repeat first | with_reducible exact G1.out | with_reducible exact World.grownBy.refl _ _ | with_reducible refine gb_alloc ?_ _ | with_reducible refine gb_drew1 ?_))) HM.out (X5.out.fr (FR.gb (by (repeat first | with_reducible exact World.grownBy.refl _ _ | with_reducible refine gb_alloc ?_ _ | with_reducible refine gb_drew1 ?_)))) HLq.out HLr.out HNow.out (Nat.le_trans HVh.out (FR.size (lo := lo) (hi := hi) (a := V) (by (repeat first | with_reducible exact F3.out | with_reducible exact F2.out | with_reducible exact F1.out | with_reducible exact FR.refl _ _ _ | with_reducible refine FR.alloc ?_ _ | with_reducible refine FR.drew ?_ | with_reducible refine FR.stores ?_ _ _ (by first | exact Nat.le_refl _ | exact F1.out.size | exact F2.out.size | exact F3.out.size)))))).mono ?_; rintro e w6 ⟨a6,m6,c6,rfl,x6,s6,f6⟩; have F2 : Hid (FR lo hi V w6) := FR.trans (by (repeat first | with_reducible exact F3.out | with_reducible exact F2.out | with_reducible exact F1.out | with_reducible exact FR.refl _ _ _ | with_reducible refine FR.alloc ?_ _ | with_reducible refine FR.drew ?_ | with_reducible refine FR.stores ?_ _ _ (by first | exact Nat.le_refl _ | exact F1.out.size | exact F2.out.size | exact F3.out.size))) f6; have X6 := hid (And.intro x6 s6); (first | (have HZ2 := hid (Blk.fr (lo := lo) (hi := hi) HZ1.out f6 (.inr HVh.out))) | (have HZ2 := hid (Blk.fr (lo := lo) (hi := hi) (Blk.new w5 zeroCame 44) f6 (.inr (Nat.le_trans HVh.out F1.out.size)))) | skip); clear x6 s6 f6)
   | (go_at_call 19; refine (HC1.out _ (.slice a6 m6 c6) (X6.out.1.fr (FR.gb (by (repeat first | with_reducible exact World.grownBy.refl _ _ | with_reducible refine gb_alloc ?_ _ | with_reducible refine gb_drew1 ?_)))).1 (KB.tab (HK.out.fr (by (repeat first | with_reducible exact F3.out | with_reducible exact F2.out | with_reducible exact F1.out | with_reducible exact FR.refl _ _ _ | with_reducible refine FR.alloc ?_ _ | with_reducible refine FR.drew ?_ | with_reducible refine FR.stores ?_ _ _ (by first | exact Nat.le_refl _ | exact F1.out.size | exact F2.out.size | exact F3.out.size)))) HTab.out)).mono ?_; rintro e w7 ⟨cs,ao,m7,c7,rfl,hcs,x7,g7⟩; have HCs := hid hcs; clear hcs; have S7 : Hid (KS q lo hi w7 g ⟨100,bO,[],ds.drop 24⟩) := X6.out.2.gb (gb_trans (by (repeat first | with_reducible exact World.grownBy.refl _ _ | with_reducible refine gb_alloc ?_ _ | with_reducible refine gb_drew1 ?_)) g7); have X7 : Hid (KX lo hi w7 (.slice ao m7 c7) (ticketBox (oT k0) eT k1)) := KX.made x7 (Nat.le_trans HVh.out (FR.size (lo := lo) (hi := hi) (a := V) (by (repeat first | with_reducible exact F3.out | with_reducible exact F2.out | with_reducible exact F1.out | with_reducible exact FR.refl _ _ _ | with_reducible refine FR.alloc ?_ _ | with_reducible refine FR.drew ?_ | with_reducible refine FR.stores ?_ _ _ (by first | exact Nat.le_refl _ | exact F1.out.size | exact F2.out.size | exact F3.out.size))))); (first | (have HZ3 := hid (Blk.grown HZ2.out g7 (by simp)); have HNe := hid (place_ne x7 (.inl HZ2.out.lt))) | (have HZ3 := hid (Blk.grown (Blk.new w6 zeroCame 44) g7 (by simp)); have HNe := hid (place_ne x7 (cb := w6.heap.size) (.inl (by rw [World.size_alloc]; omega)))) | (have HZ3 := hid (Blk.new w7 zeroCame 44); have HNe := hid (place_ne x7 (cb := w7.heap.size) (.inr (Nat.le_refl _))))); have hsz := came_size HCs.out; have hst := run_store_live (P := Tryz.prog) cs.toList (came_live HZ3.out) (by rw [Array.length_toList,hsz]; exact Nat.le_refl _) (came_one HCs.out); have F3 : Hid (FR lo hi V w7) := FR.trans (by (repeat first | with_reducible exact F3.out | with_reducible exact F2.out | with_reducible exact F1.out | with_reducible exact FR.refl _ _ _ | with_reducible refine FR.alloc ?_ _ | with_reducible refine FR.drew ?_ | with_reducible refine FR.stores ?_ _ _ (by first | exact Nat.le_refl _ | exact F1.out.size | exact F2.out.size | exact F3.out.size))) (FR.gb g7); clear x7 g7))
  all_goals go_wp2
  all_goals go_meet
  all_goals first
   | exact ⟨_,ao,m7,c7,rfl,rfl,(by first | exact HVh.out | exact Nat.le_trans HVh.out F1.out.size | exact Nat.le_trans HVh.out F2.out.size | exact Nat.le_trans HVh.out F3.out.size),came_put HZ3.out HCs.out,X7.out.cf (cfs w7 _ _) (fun b off n c e o e2 => HNe.out b off n c e e2),S7.out.cf (cfs w7 _ _) (fun b y e => .inr (by rw [e]; first | exact HVh.out | exact Nat.le_trans HVh.out F1.out.size | exact Nat.le_trans HVh.out F2.out.size | exact Nat.le_trans HVh.out F3.out.size)),HK.out.fr (by (repeat first | with_reducible exact F3.out | with_reducible exact F2.out | with_reducible exact F1.out | with_reducible exact FR.refl _ _ _ | with_reducible refine FR.alloc ?_ _ | with_reducible refine FR.drew ?_ | with_reducible refine FR.stores ?_ _ _ (by first | exact Nat.le_refl _ | exact F1.out.size | exact F2.out.size | exact F3.out.size)))⟩
   | exact ⟨_,ao,m7,c7,rfl,rfl,(by first | exact HVh.out | exact Nat.le_trans HVh.out F1.out.size | exact Nat.le_trans HVh.out F2.out.size | exact Nat.le_trans HVh.out F3.out.size),came_put HZ3.out HCs.out,(X7.out.fr (FR.gb (gb_alloc0 w7 _))).cf (cfs _ _ _) (fun b off n c e o e2 => HNe.out b off n c e e2),(S7.out.gb (gb_alloc0 w7 _)).cf (cfs _ _ _) (fun b y e => .inr (by rw [e]; exact Nat.le_trans HVh.out F3.out.size)),HK.out.fr (by (repeat first | with_reducible exact F3.out | with_reducible exact F2.out | with_reducible exact F1.out | with_reducible exact FR.refl _ _ _ | with_reducible refine FR.alloc ?_ _ | with_reducible refine FR.drew ?_ | with_reducible refine FR.stores ?_ _ _ (by first | exact Nat.le_refl _ | exact F1.out.size | exact F2.out.size | exact F3.out.size)))⟩
 case rest =>
  obtain ⟨cb,ao,m,c,rfl,rfl,hcb,hB,hX,hS,hK⟩ := hcut
  have HCbh := hid hcb
  have HB := hid hB
  have HX := hid hX
  have HK1 := hid hK
  obtain ⟨d2,hd2⟩ : ∃ d,ds.drop 24 = d := ⟨_,rfl⟩
  have hdl : d2.length = 456 := by rw [← hd2,List.length_drop,HL.out]
  rw [hd2] at hS
  have HS1 : Hid (KS q lo hi wc g ⟨100,rkB 0 0,[],d2⟩) := hS
  have HDl := hid hdl
  clear hcb hB hX hS hK HA HM HLq HLr HF1 HC1 HK HS HVh y0 y1 HW1 hd2 hdl
  have hpk := kpick_any times 4 wc HTi.out (by decide)
  have hpl := pickN_lt times 4 (by decide)
  rw [show (4 : Int).toNat = 4 from rfl] at hpk
  obtain ⟨P,hP⟩ : ∃ P : Int,(pickN times 4 : Int) = P := ⟨_,rfl⟩
  rw [hP] at hpk
  have hP0 : 0 ≤ P := by omega
  have hP1 : P ≤ 3 := by omega
  have HPk := hid hpk
  clear hpk hpl hP
  go_wp2_with fail
  refine HPk.out.mono ?_
  rintro e w4 ⟨rfl,rfl⟩
  clear HPk
  go_wp2_with fail
  go_loopw [13,14,15] (fun i _ _ wr => ∃ k : Nat,(k : Int) ≤ P ∧ k ≤ 3 ∧ i = .int .i64 (k : Int) ∧ KS q lo hi wr g ⟨100,rkB k k,[],d2⟩ ∧ FR lo hi wc wr) (fun i _ _ _ => P.toNat - (intOf i).toNat)
  case atStart =>
   exact ⟨0,hP0,by decide,rfl,HS1.out,FR.refl _ _ _⟩
  case round =>
   obtain ⟨k,hk,hk3,rfl,hS,hF⟩ := hrel
   have hk4 : k = 0 ∧ 0 < P ∨ k = 1 ∧ 1 < P ∨ k = 2 ∧ 2 < P ∨ (k : Int) = P := by omega
   rcases hk4 with ⟨rfl,hq⟩ | ⟨rfl,hq⟩ | ⟨rfl,hq⟩ | hq
   ·have hlt : (0 : Int) + 0 < P := by omega
    have hlt2 : (0 : Int) < P := by omega
    have HA1 : Hid (∀ W (K : Int),KS q lo hi W g ⟨100,rkB 0 0,[],d2⟩ → K = 50 → Calls Tryz.prog 25 #[.agg #[.pointer p0,.pointer p1],.agg #[.int .i64 3,.string ⟨#[116,103,115]⟩,.int .u64 K,.int .i64 0,.int .i64 0,.int .i64 0,.int .i64 0]] W fun e w' => e = .returned (.int .i64 0) ∧ KS q lo hi w' g ⟨100,rkB 1 0,[],d2⟩ ∧ FR lo hi W w') := fun W K h hK => kadm2 q lo hi g 5 p0 p1 ⟨100,rkB 0 0,[],d2⟩ (rkB 1 0) 0 3 K nTgs 50 W HD.out rk_t0 h (rkB_ok 0 0 (by decide) (by decide)).1 (by decide) (by decide) rfl (by rw [hK]; rfl)
    have HA2 : Hid (∀ W (K : Int),KS q lo hi W g ⟨100,rkB 1 0,[],d2⟩ → K = 60 → Calls Tryz.prog 25 #[.agg #[.pointer p0,.pointer p1],.agg #[.int .i64 3,.string ⟨#[119,101,98]⟩,.int .u64 K,.int .i64 0,.int .i64 0,.int .i64 0,.int .i64 0]] W fun e w' => e = .returned (.int .i64 0) ∧ KS q lo hi w' g ⟨100,rkB 1 1,[],d2⟩ ∧ FR lo hi W w') := fun W K h hK => kadm2 q lo hi g 5 p0 p1 ⟨100,rkB 1 0,[],d2⟩ (rkB 1 1) 0 3 K nWeb 60 W HD.out rk_w0 h (rkB_ok 1 0 (by decide) (by decide)).1 (by decide) (by decide) rfl (by rw [hK]; rfl)
    have HS5 := hid hS
    have HK5 := hid (HK1.out.fr hF)
    have HF5 := hid hF
    have y0 : wr.cell? ⟨w1.heap.size,0,none⟩ = some (.pointer p0) := HK5.out.house.cell 0
    have y1 : wr.cell? ⟨w1.heap.size,1,none⟩ = some (.pointer p1) := HK5.out.house.cell 1
    clear hS hF
    go_wp2_with fail
    refine (HA1.out _ _ HS5.out (by first | rfl | decide)).mono ?_
    rintro e w5 ⟨rfl,s5,f5⟩
    have HS6 := hid s5
    have HF6 := hid (HF5.out.trans f5)
    have HK6 := hid (HK5.out.fr f5)
    have y0 : w5.cell? ⟨w1.heap.size,0,none⟩ = some (.pointer p0) := HK6.out.house.cell 0
    have y1 : w5.cell? ⟨w1.heap.size,1,none⟩ = some (.pointer p1) := HK6.out.house.cell 1
    clear s5 f5
    go_wp2_with fail
    refine (HA2.out _ _ HS6.out (by first | rfl | decide)).mono ?_
    rintro e w6 ⟨rfl,s6,f6⟩
    have HS7 := hid s6
    have HF7 := hid (HF6.out.trans f6)
    clear s6 f6
    go_wp2
    go_roundw
    case rel =>
     exact ⟨1,by omega,by omega,rfl,HS7.out,HF7.out⟩
    case measure =>
     simp [intOf]
     omega
   ·have hlt : (0 : Int) + 1 < P := by omega
    have hlt2 : (1 : Int) < P := by omega
    have HA1 : Hid (∀ W (K : Int),KS q lo hi W g ⟨100,rkB 1 1,[],d2⟩ → K = 51 → Calls Tryz.prog 25 #[.agg #[.pointer p0,.pointer p1],.agg #[.int .i64 3,.string ⟨#[116,103,115]⟩,.int .u64 K,.int .i64 0,.int .i64 0,.int .i64 0,.int .i64 0]] W fun e w' => e = .returned (.int .i64 0) ∧ KS q lo hi w' g ⟨100,rkB 2 1,[],d2⟩ ∧ FR lo hi W w') := fun W K h hK => kadm2 q lo hi g 5 p0 p1 ⟨100,rkB 1 1,[],d2⟩ (rkB 2 1) 0 3 K nTgs 51 W HD.out rk_t1 h (rkB_ok 1 1 (by decide) (by decide)).1 (by decide) (by decide) rfl (by rw [hK]; rfl)
    have HA2 : Hid (∀ W (K : Int),KS q lo hi W g ⟨100,rkB 2 1,[],d2⟩ → K = 61 → Calls Tryz.prog 25 #[.agg #[.pointer p0,.pointer p1],.agg #[.int .i64 3,.string ⟨#[119,101,98]⟩,.int .u64 K,.int .i64 0,.int .i64 0,.int .i64 0,.int .i64 0]] W fun e w' => e = .returned (.int .i64 0) ∧ KS q lo hi w' g ⟨100,rkB 2 2,[],d2⟩ ∧ FR lo hi W w') := fun W K h hK => kadm2 q lo hi g 5 p0 p1 ⟨100,rkB 2 1,[],d2⟩ (rkB 2 2) 0 3 K nWeb 61 W HD.out rk_w1 h (rkB_ok 2 1 (by decide) (by decide)).1 (by decide) (by decide) rfl (by rw [hK]; rfl)
    have HS5 := hid hS
    have HK5 := hid (HK1.out.fr hF)
    have HF5 := hid hF
    have y0 : wr.cell? ⟨w1.heap.size,0,none⟩ = some (.pointer p0) := HK5.out.house.cell 0
    have y1 : wr.cell? ⟨w1.heap.size,1,none⟩ = some (.pointer p1) := HK5.out.house.cell 1
    clear hS hF
    go_wp2_with fail
    refine (HA1.out _ _ HS5.out (by first | rfl | decide)).mono ?_
    rintro e w5 ⟨rfl,s5,f5⟩
    have HS6 := hid s5
    have HF6 := hid (HF5.out.trans f5)
    have HK6 := hid (HK5.out.fr f5)
    have y0 : w5.cell? ⟨w1.heap.size,0,none⟩ = some (.pointer p0) := HK6.out.house.cell 0
    have y1 : w5.cell? ⟨w1.heap.size,1,none⟩ = some (.pointer p1) := HK6.out.house.cell 1
    clear s5 f5
    go_wp2_with fail
    refine (HA2.out _ _ HS6.out (by first | rfl | decide)).mono ?_
    rintro e w6 ⟨rfl,s6,f6⟩
    have HS7 := hid s6
    have HF7 := hid (HF6.out.trans f6)
    clear s6 f6
    go_wp2
    go_roundw
    case rel =>
     exact ⟨2,by omega,by omega,rfl,HS7.out,HF7.out⟩
    case measure =>
     simp [intOf]
     omega
   ·have hlt : (0 : Int) + 2 < P := by omega
    have hlt2 : (2 : Int) < P := by omega
    have HA1 : Hid (∀ W (K : Int),KS q lo hi W g ⟨100,rkB 2 2,[],d2⟩ → K = 52 → Calls Tryz.prog 25 #[.agg #[.pointer p0,.pointer p1],.agg #[.int .i64 3,.string ⟨#[116,103,115]⟩,.int .u64 K,.int .i64 0,.int .i64 0,.int .i64 0,.int .i64 0]] W fun e w' => e = .returned (.int .i64 0) ∧ KS q lo hi w' g ⟨100,rkB 3 2,[],d2⟩ ∧ FR lo hi W w') := fun W K h hK => kadm2 q lo hi g 5 p0 p1 ⟨100,rkB 2 2,[],d2⟩ (rkB 3 2) 0 3 K nTgs 52 W HD.out rk_t2 h (rkB_ok 2 2 (by decide) (by decide)).1 (by decide) (by decide) rfl (by rw [hK]; rfl)
    have HA2 : Hid (∀ W (K : Int),KS q lo hi W g ⟨100,rkB 3 2,[],d2⟩ → K = 62 → Calls Tryz.prog 25 #[.agg #[.pointer p0,.pointer p1],.agg #[.int .i64 3,.string ⟨#[119,101,98]⟩,.int .u64 K,.int .i64 0,.int .i64 0,.int .i64 0,.int .i64 0]] W fun e w' => e = .returned (.int .i64 0) ∧ KS q lo hi w' g ⟨100,rkB 3 3,[],d2⟩ ∧ FR lo hi W w') := fun W K h hK => kadm2 q lo hi g 5 p0 p1 ⟨100,rkB 3 2,[],d2⟩ (rkB 3 3) 0 3 K nWeb 62 W HD.out rk_w2 h (rkB_ok 3 2 (by decide) (by decide)).1 (by decide) (by decide) rfl (by rw [hK]; rfl)
    have HS5 := hid hS
    have HK5 := hid (HK1.out.fr hF)
    have HF5 := hid hF
    have y0 : wr.cell? ⟨w1.heap.size,0,none⟩ = some (.pointer p0) := HK5.out.house.cell 0
    have y1 : wr.cell? ⟨w1.heap.size,1,none⟩ = some (.pointer p1) := HK5.out.house.cell 1
    clear hS hF
    go_wp2_with fail
    refine (HA1.out _ _ HS5.out (by first | rfl | decide)).mono ?_
    rintro e w5 ⟨rfl,s5,f5⟩
    have HS6 := hid s5
    have HF6 := hid (HF5.out.trans f5)
    have HK6 := hid (HK5.out.fr f5)
    have y0 : w5.cell? ⟨w1.heap.size,0,none⟩ = some (.pointer p0) := HK6.out.house.cell 0
    have y1 : w5.cell? ⟨w1.heap.size,1,none⟩ = some (.pointer p1) := HK6.out.house.cell 1
    clear s5 f5
    go_wp2_with fail
    refine (HA2.out _ _ HS6.out (by first | rfl | decide)).mono ?_
    rintro e w6 ⟨rfl,s6,f6⟩
    have HS7 := hid s6
    have HF7 := hid (HF6.out.trans f6)
    clear s6 f6
    go_wp2
    go_roundw
    case rel =>
     exact ⟨3,by omega,by omega,rfl,HS7.out,HF7.out⟩
    case measure =>
     simp [intOf]
     omega
   ·subst hq
    have hlt : ¬ (k : Int) < (k : Int) := by omega
    have HS5 := hid hS
    have HK5 := hid (HK1.out.fr hF)
    have HX5 := hid (HX.out.fr hF)
    have HB5 := hid (HB.out.fr hF (.inr HCbh.out))
    have HK3 := hid hk3
    clear hS hF hk hP0 hP1 HS1 HK1 HX HB
    cases gone with
    | true =>
     have HD1 := hid (kadm2 q lo hi g 5 p0 p1 ⟨100,rkB k k,[],d2⟩ (rkG k) 0 2 0 nTgs 0 wr HD.out (rk_d k hk3) HS5.out (rkB_ok k k hk3 hk3).1 (by decide) (by decide) rfl rfl)
     have y0 : wr.cell? ⟨w1.heap.size,0,none⟩ = some (.pointer p0) := HK5.out.house.cell 0
     have y1 : wr.cell? ⟨w1.heap.size,1,none⟩ = some (.pointer p1) := HK5.out.house.cell 1
     clear hk3
     go_wp2_with fail
     refine HD1.out.mono ?_
     clear HD1
     rintro e w6 ⟨rfl,s6,f6⟩
     have HS6 := hid s6
     have HK6 := hid (HK5.out.fr f6)
     have HX6 := hid (HX5.out.fr f6)
     have HB6 := hid (HB5.out.fr f6 (.inr HCbh.out))
     have HB5 := HB6
     have e0 : w6.cell? ⟨cb,0,none⟩ = some (.slice ao m c) := HB6.out.cell 0
     have e6 : w6.cell? ⟨cb,6,none⟩ = some (.int .u64 (k0.toNat : Int)) := HB6.out.cell 6
     clear s6 f6 HS5 HK5 HX5 hlt
     have HN1 := hid (next_al lo hi k0 k1 7 7 (.slice ao m c) w6 HK6.out.size HX6.out rfl (by decide))
     go_wp2_with fail
     refine HN1.out.mono ?_
     clear HN1
     rintro e w7 ⟨a7,m7,c7,rfl,x7,g7⟩
     have HS7 := hid (HS6.out.gb g7)
     have HK7 := hid (HK6.out.fr (FR.gb g7))
     have HB7 := hid (HB5.out.fr (FR.gb (lo := lo) (hi := hi) g7) (.inr HCbh.out))
     have y0 : w7.cell? ⟨w1.heap.size,0,none⟩ = some (.pointer p0) := HK7.out.house.cell 0
     have y1 : w7.cell? ⟨w1.heap.size,1,none⟩ = some (.pointer p1) := HK7.out.house.cell 1
     have HLq : Hid ((nextReq (ticketBox (oT k0) eT k1) (sealedProof (oT k0) 7 1000) nWeb 2 0 0).length ≤ 300) := nextq_len _ _ _ _ _ _ _ _ _ len_al (by decide) (by decide)
     have HAn := hid (kans2 q lo hi g p0 p1 ⟨100,rkG k,[],d2⟩ ⟨100,rkG k,[],d2⟩ 1000 (nextReq (ticketBox (oT k0) eT k1) (sealedProof (oT k0) 7 1000) nWeb 2 0 0) (refusalBox 1000 7) (.slice a7 m7 c7) w7 HD.out (rk_gone k HK3.out d2 k0 k1 7) HS7.out (rkG_m k HK3.out d2) x7 HLq.out (refusal_len _ _) ⟨by decide,by decide⟩ HK7.out.size)
     clear x7 g7 HLq
     go_wp2_with fail
     refine HAn.out.mono ?_
     clear HAn
     rintro e w8 ⟨a8,m8,c8,rfl,x8,s8,f8⟩
     have HS8 := hid s8
     have HK8 := hid (HK7.out.fr f8)
     have HB8 := hid (HB7.out.fr f8 (.inr HCbh.out))
     have HX8 := hid x8
     clear s8 f8 x8
     have HCo := hid (kcode_any 1000 7 (.slice a8 m8 c8) w8 ⟨by decide,by decide⟩ ⟨by decide,by decide⟩ HX8.out.1 (HK8.out.tab HTab.out))
     go_wp2_with fail
     refine HCo.out.mono ?_
     clear HCo
     rintro e w9 ⟨rfl,g9⟩
     have HS9 := hid (HS8.out.gb g9)
     have HK9 := hid (HK8.out.fr (FR.gb g9))
     have HD2 := hid (kadm2 q lo hi g 5 p0 p1 ⟨100,rkG k,[],d2⟩ (rkG k) 6 2 0 nTgs 0 w9 HD.out (rk_e k HK3.out) HS9.out (rkG_ok k HK3.out).1 (by decide) (by decide) rfl rfl)
     have y0 : w9.cell? ⟨w1.heap.size,0,none⟩ = some (.pointer p0) := HK9.out.house.cell 0
     have y1 : w9.cell? ⟨w1.heap.size,1,none⟩ = some (.pointer p1) := HK9.out.house.cell 1
     clear g9
     go_wp2_with fail
     refine HD2.out.mono ?_
     clear HD2
     rintro e w10 ⟨rfl,s10,f10⟩
     have HKe := hid (HK9.out.fr f10)
     clear s10 f10
     go_wp2
     go_ret
     exact ⟨rfl,HKe.out.below⟩
    | false =>
     have e0 : wr.cell? ⟨cb,0,none⟩ = some (.slice ao m c) := HB5.out.cell 0
     have e6 : wr.cell? ⟨cb,6,none⟩ = some (.int .u64 (k0.toNat : Int)) := HB5.out.cell 6
     clear hlt hk3
     obtain ⟨j0,hj0⟩ : ∃ k,drawAt d2 0 = k := ⟨_,rfl⟩
     obtain ⟨j1,hj1⟩ : ∃ k,drawAt d2 1 = k := ⟨_,rfl⟩
     obtain ⟨j2,hj2⟩ : ∃ k,drawAt d2 2 = k := ⟨_,rfl⟩
     have HGr : Hid (∀ n,n = 0 ∨ n = 1 → answerM ⟨100,rkB n n,[],d2⟩ 1000 (nextReq (ticketBox (oT k0) eT k1) (sealedProof (oT k0) 7 1000) nWeb 2 0 0) = (giveBox 13 ⟨0,j0,nAl,1000,1000,6000,0⟩ (rkW n) 2 0 k0 5 j1 j2,⟨100,rkB n n,[⟨nAl,1000,((7 : UInt64).toNat : Int)⟩],d2.drop 24⟩)) := fun n h => by rw [← hj0,← hj1,← hj2]; exact rk_grant n h d2 k0 k1 (by rw [HDl.out]; decide)
     clear hj0 hj1 hj2
     have hk4 := le3 HK3.out
     rcases hk4 with rfl | rfl | rfl | rfl
     ·have hlt : ¬ (0 : Int) < 0 := by decide
      have HN1 := hid (next_al lo hi k0 k1 7 7 (.slice ao m c) wr HK5.out.size HX5.out rfl (by decide))
      go_wp2_with fail
      refine HN1.out.mono ?_
      clear HN1
      rintro e w7 ⟨a7,m7,c7,rfl,x7,g7⟩
      have HS7 := hid (HS5.out.gb g7)
      have HK7 := hid (HK5.out.fr (FR.gb g7))
      have HB7 := hid (HB5.out.fr (FR.gb (lo := lo) (hi := hi) g7) (.inr HCbh.out))
      have y0 : w7.cell? ⟨w1.heap.size,0,none⟩ = some (.pointer p0) := HK7.out.house.cell 0
      have y1 : w7.cell? ⟨w1.heap.size,1,none⟩ = some (.pointer p1) := HK7.out.house.cell 1
      have HLq : Hid ((nextReq (ticketBox (oT k0) eT k1) (sealedProof (oT k0) 7 1000) nWeb 2 0 0).length ≤ 300) := nextq_len _ _ _ _ _ _ _ _ _ len_al (by decide) (by decide)
      have HAn := hid (kans2 q lo hi g p0 p1 ⟨100,rkB 0 0,[],d2⟩ ⟨100,rkB 0 0,[⟨nAl,1000,((7 : UInt64).toNat : Int)⟩],d2.drop 24⟩ 1000 (nextReq (ticketBox (oT k0) eT k1) (sealedProof (oT k0) 7 1000) nWeb 2 0 0) (giveBox 13 ⟨0,j0,nAl,1000,1000,6000,0⟩ (rkW 0) 2 0 k0 5 j1 j2) (.slice a7 m7 c7) w7 HD.out (HGr.out 0 (by decide)) HS7.out (rkM_ok 0 (by decide) d2) x7 HLq.out (give_len _ _ _ _ _ _ _ _ _ len_al (by decide)) ⟨by decide,by decide⟩ HK7.out.size)
      clear x7 g7 HLq
      go_wp2_with fail
      refine HAn.out.mono ?_
      clear HAn
      rintro e w8 ⟨a8,m8,c8,rfl,x8,s8,f8⟩
      have HS8 := hid s8
      have HK8 := hid (HK7.out.fr f8)
      have HB8 := hid (HB7.out.fr f8 (.inr HCbh.out))
      have HX8 := hid x8
      clear s8 f8 x8
      have HCm : Hid (∀ N K : Int,N = 1 → K = 1000003 → Calls Tryz.prog 19 #[.slice a8 m8 c8,.int .i64 13,.string ⟨#[97,108]⟩,.string ⟨#[119,101,98]⟩,.int .i64 N,.int .u64 K,.int .i64 0,.int .u64 (k0.toNat : Int),.int .i64 5] w8 fun e w' => ∃ cs,e = .returned (.tuple #[.agg cs,.bool true]) ∧ w8.grownBy w' none) := fun N K hN hK => came_rek 0 (by decide) k0 j0 j1 j2 N K w8 _ HX8.out.1 (HK8.out.tab HTab.out) (by rw [hN]; rfl) (by rw [hK]; rfl)
      have e6 : w8.cell? ⟨cb,6,none⟩ = some (.int .u64 (k0.toNat : Int)) := HB8.out.cell 6
      go_wp2_with fail
      refine (HCm.out _ _ (by first | rfl | decide) (by first | rfl | decide)).mono ?_
      rintro e w9 ⟨cs,rfl,g9⟩
      have HKe := hid (HK8.out.fr (FR.gb g9))
      clear g9
      go_wp2
      go_ret
      exact ⟨rfl,HKe.out.below⟩
     ·have hlt : ¬ (0 : Int) < 0 := by decide
      have HN1 := hid (next_al lo hi k0 k1 7 7 (.slice ao m c) wr HK5.out.size HX5.out rfl (by decide))
      go_wp2_with fail
      refine HN1.out.mono ?_
      clear HN1
      rintro e w7 ⟨a7,m7,c7,rfl,x7,g7⟩
      have HS7 := hid (HS5.out.gb g7)
      have HK7 := hid (HK5.out.fr (FR.gb g7))
      have HB7 := hid (HB5.out.fr (FR.gb (lo := lo) (hi := hi) g7) (.inr HCbh.out))
      have y0 : w7.cell? ⟨w1.heap.size,0,none⟩ = some (.pointer p0) := HK7.out.house.cell 0
      have y1 : w7.cell? ⟨w1.heap.size,1,none⟩ = some (.pointer p1) := HK7.out.house.cell 1
      have HLq : Hid ((nextReq (ticketBox (oT k0) eT k1) (sealedProof (oT k0) 7 1000) nWeb 2 0 0).length ≤ 300) := nextq_len _ _ _ _ _ _ _ _ _ len_al (by decide) (by decide)
      have HAn := hid (kans2 q lo hi g p0 p1 ⟨100,rkB 1 1,[],d2⟩ ⟨100,rkB 1 1,[⟨nAl,1000,((7 : UInt64).toNat : Int)⟩],d2.drop 24⟩ 1000 (nextReq (ticketBox (oT k0) eT k1) (sealedProof (oT k0) 7 1000) nWeb 2 0 0) (giveBox 13 ⟨0,j0,nAl,1000,1000,6000,0⟩ (rkW 1) 2 0 k0 5 j1 j2) (.slice a7 m7 c7) w7 HD.out (HGr.out 1 (by decide)) HS7.out (rkM_ok 1 (by decide) d2) x7 HLq.out (give_len _ _ _ _ _ _ _ _ _ len_al (by decide)) ⟨by decide,by decide⟩ HK7.out.size)
      clear x7 g7 HLq
      go_wp2_with fail
      refine HAn.out.mono ?_
      clear HAn
      rintro e w8 ⟨a8,m8,c8,rfl,x8,s8,f8⟩
      have HS8 := hid s8
      have HK8 := hid (HK7.out.fr f8)
      have HB8 := hid (HB7.out.fr f8 (.inr HCbh.out))
      have HX8 := hid x8
      clear s8 f8 x8
      have HCm : Hid (∀ N K : Int,N = 2 → K = 60 → Calls Tryz.prog 19 #[.slice a8 m8 c8,.int .i64 13,.string ⟨#[97,108]⟩,.string ⟨#[119,101,98]⟩,.int .i64 N,.int .u64 K,.int .i64 0,.int .u64 (k0.toNat : Int),.int .i64 5] w8 fun e w' => ∃ cs,e = .returned (.tuple #[.agg cs,.bool true]) ∧ w8.grownBy w' none) := fun N K hN hK => came_rek 1 (by decide) k0 j0 j1 j2 N K w8 _ HX8.out.1 (HK8.out.tab HTab.out) (by rw [hN]; rfl) (by rw [hK]; rfl)
      have e6 : w8.cell? ⟨cb,6,none⟩ = some (.int .u64 (k0.toNat : Int)) := HB8.out.cell 6
      go_wp2_with fail
      refine (HCm.out _ _ (by first | rfl | decide) (by first | rfl | decide)).mono ?_
      rintro e w9 ⟨cs,rfl,g9⟩
      have HKe := hid (HK8.out.fr (FR.gb g9))
      clear g9
      go_wp2
      go_ret
      exact ⟨rfl,HKe.out.below⟩
     ·skip
      have HN1 := hid (next_al lo hi k0 k1 7 7 (.slice ao m c) wr HK5.out.size HX5.out rfl (by decide))
      go_wp2_with fail
      refine HN1.out.mono ?_
      clear HN1
      rintro e w7 ⟨a7,m7,c7,rfl,x7,g7⟩
      have HS7 := hid (HS5.out.gb g7)
      have HK7 := hid (HK5.out.fr (FR.gb g7))
      have HB7 := hid (HB5.out.fr (FR.gb (lo := lo) (hi := hi) g7) (.inr HCbh.out))
      have y0 : w7.cell? ⟨w1.heap.size,0,none⟩ = some (.pointer p0) := HK7.out.house.cell 0
      have y1 : w7.cell? ⟨w1.heap.size,1,none⟩ = some (.pointer p1) := HK7.out.house.cell 1
      have HLq : Hid ((nextReq (ticketBox (oT k0) eT k1) (sealedProof (oT k0) 7 1000) nWeb 2 0 0).length ≤ 300) := nextq_len _ _ _ _ _ _ _ _ _ len_al (by decide) (by decide)
      have HAn := hid (kans2 q lo hi g p0 p1 ⟨100,rkB 2 2,[],d2⟩ ⟨100,rkB 2 2,[],d2⟩ 1000 (nextReq (ticketBox (oT k0) eT k1) (sealedProof (oT k0) 7 1000) nWeb 2 0 0) (refusalBox 1000 44) (.slice a7 m7 c7) w7 HD.out (rk_bad 2 (by decide) d2 k0 k1 7) HS7.out (rkM_ok 2 (by decide) d2) x7 HLq.out (refusal_len _ _) ⟨by decide,by decide⟩ HK7.out.size)
      clear x7 g7 HLq
      go_wp2_with fail
      refine HAn.out.mono ?_
      clear HAn
      rintro e w8 ⟨a8,m8,c8,rfl,x8,s8,f8⟩
      have HS8 := hid s8
      have HK8 := hid (HK7.out.fr f8)
      have HB8 := hid (HB7.out.fr f8 (.inr HCbh.out))
      have HX8 := hid x8
      clear s8 f8 x8
      have HCo := hid (kcode_any 1000 44 (.slice a8 m8 c8) w8 ⟨by decide,by decide⟩ ⟨by decide,by decide⟩ HX8.out.1 (HK8.out.tab HTab.out))
      go_wp2_with fail
      refine HCo.out.mono ?_
      rintro e w9 ⟨rfl,g9⟩
      have HKe := hid (HK8.out.fr (FR.gb g9))
      clear g9 HCo
      go_wp2
      go_ret
      exact ⟨rfl,HKe.out.below⟩
     ·skip
      have HN1 := hid (next_al lo hi k0 k1 7 7 (.slice ao m c) wr HK5.out.size HX5.out rfl (by decide))
      go_wp2_with fail
      refine HN1.out.mono ?_
      clear HN1
      rintro e w7 ⟨a7,m7,c7,rfl,x7,g7⟩
      have HS7 := hid (HS5.out.gb g7)
      have HK7 := hid (HK5.out.fr (FR.gb g7))
      have HB7 := hid (HB5.out.fr (FR.gb (lo := lo) (hi := hi) g7) (.inr HCbh.out))
      have y0 : w7.cell? ⟨w1.heap.size,0,none⟩ = some (.pointer p0) := HK7.out.house.cell 0
      have y1 : w7.cell? ⟨w1.heap.size,1,none⟩ = some (.pointer p1) := HK7.out.house.cell 1
      have HLq : Hid ((nextReq (ticketBox (oT k0) eT k1) (sealedProof (oT k0) 7 1000) nWeb 2 0 0).length ≤ 300) := nextq_len _ _ _ _ _ _ _ _ _ len_al (by decide) (by decide)
      have HAn := hid (kans2 q lo hi g p0 p1 ⟨100,rkB 3 3,[],d2⟩ ⟨100,rkB 3 3,[],d2⟩ 1000 (nextReq (ticketBox (oT k0) eT k1) (sealedProof (oT k0) 7 1000) nWeb 2 0 0) (refusalBox 1000 44) (.slice a7 m7 c7) w7 HD.out (rk_bad 3 (by decide) d2 k0 k1 7) HS7.out (rkM_ok 3 (by decide) d2) x7 HLq.out (refusal_len _ _) ⟨by decide,by decide⟩ HK7.out.size)
      clear x7 g7 HLq
      go_wp2_with fail
      refine HAn.out.mono ?_
      clear HAn
      rintro e w8 ⟨a8,m8,c8,rfl,x8,s8,f8⟩
      have HS8 := hid s8
      have HK8 := hid (HK7.out.fr f8)
      have HB8 := hid (HB7.out.fr f8 (.inr HCbh.out))
      have HX8 := hid x8
      clear s8 f8 x8
      have HCo := hid (kcode_any 1000 44 (.slice a8 m8 c8) w8 ⟨by decide,by decide⟩ ⟨by decide,by decide⟩ HX8.out.1 (HK8.out.tab HTab.out))
      go_wp2_with fail
      refine HCo.out.mono ?_
      rintro e w9 ⟨rfl,g9⟩
      have HKe := hid (HK8.out.fr (FR.gb g9))
      clear g9 HCo
      go_wp2
      go_ret
      exact ⟨rfl,HKe.out.below⟩
end Go.Proofs.YtbanfbpfapjfcaaGreatDoor
