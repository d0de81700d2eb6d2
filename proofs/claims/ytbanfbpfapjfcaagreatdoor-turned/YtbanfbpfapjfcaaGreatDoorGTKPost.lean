/-
  
  
-/
import Derived.Test.YtbanfbpfapjfcaaGreatDoorGTKHouse
import Derived.Test.YtbanfbpfapjfcaaGreatDoorGTKOpen
import Derived.Deep.QuietTactic
import Derived.BigQuiet
namespace Go.Proofs.YtbanfbpfapjfcaaGreatDoor
open Go.RowKit
set_option maxRecDepth 100000
theorem bT_ok (pf : List PF) (ds : List UInt8) (hp : ∀ y ∈ pf,In64 y.time) : MOk ⟨20,bT,pf,ds⟩ := ⟨hBook_in 100 100 100 (by decide) (by decide) (by decide),hBook_sorted _ _ _,i64a 20 rfl,hp⟩
theorem pf_now {now : Int} (h : In64 now) (l : List PF) (hl : ∀ y ∈ l,y.time = now) : ∀ y ∈ l,In64 y.time := fun y hy => by rw [hl y hy]; exact h
theorem next_tt (lo hi : Nat) (t : TK) (a cnt : UInt64) (n : Int) (vT : Value) (now opts : Int) (service : List UInt8) (W : World) (h : hi ≤ W.heap.size) (hT : KX lo hi W vT (ticketBox t tT a)) (hc : t.client = nAl) (hs : service.length ≤ 20) (hnow : In64 now) (ho : In64 opts) (hn : n = (cnt.toNat : Int)) (hcn : cnt.toNat ≤ 9223372036854775807) :
  Calls Tryz.prog 21 #[vT,.int .u64 (t.session.toNat : Int),.string ⟨#[97,108]⟩,.int .i64 now,.int .i64 n,.string ⟨service.toArray⟩,.int .i64 1,.int .i64 0,.int .i64 opts] W fun e w' => ∃ a' m c,e = .returned (.tuple #[.slice a' m c,.bool true]) ∧ KX lo hi w' (.slice a' m c) (nextReq (ticketBox t tT a) (sealedProof t cnt now) service 1 0 opts) ∧ W.grownBy w' none := by
 have hh := knext2 lo hi t tT a vT now cnt service 1 0 opts W h hT (by rw [hc]; decide) (by decide) hs hnow hcn ⟨by decide,by decide⟩ ⟨by decide,by decide⟩ ho
 rw [hc] at hh
 rw [hn]
 exact hh
theorem u64t : (1000001 : Int) = ((1000001 : UInt64).toNat : Int) := by decide
theorem u64w : (1000003 : Int) = ((1000003 : UInt64).toNat : Int) := by decide
theorem came_v (k0 k1 k2 k3 : UInt64) (W : World) (v : Value) (hv : KH W v (giveBox 13 (tV k1) tT 1 0 k0 5 k2 k3)) (ht : TabHere W) : Calls Tryz.prog 19 #[v,.int .i64 13,.string ⟨#[97,108]⟩,.string ⟨#[116,103,115]⟩,.int .i64 1,.int .u64 1000001,.int .i64 0,.int .u64 (k0.toNat : Int),.int .i64 5] W fun e w' => ∃ cs ao m c,e = .returned (.tuple #[.agg cs,.bool true]) ∧ cs = cameC (.slice ao m c) (tV k1) tT 1 ∧ KMade W.heap.size w' (.slice ao m c) (ticketBox (tV k1) tT k2) ∧ W.grownBy w' none :=
 kcame3 13 (tV k1) tT 1 0 5 k0 5 k2 k3 1000001 (k0.toNat : Int) v W rfl rfl len_al (by decide) ⟨by decide,by decide⟩ (tV_in k1) ⟨by decide,by decide⟩ ⟨by decide,by decide⟩ ⟨by decide,by decide⟩ hv ht u64t rfl
theorem came_x (k0 k1 k2 k3 : UInt64) (now : Int) (h0 : 1000 ≤ now) (h1 : now ≤ 2000) (W : World) (v : Value) (hv : KH W v (giveBox 13 (tX k1 now) tW 1 0 k0 5 k2 k3)) (ht : TabHere W) : Calls Tryz.prog 19 #[v,.int .i64 13,.string ⟨#[97,108]⟩,.string ⟨#[119,101,98]⟩,.int .i64 1,.int .u64 1000003,.int .i64 0,.int .u64 (k0.toNat : Int),.int .i64 5] W fun e w' => ∃ cs ao m c,e = .returned (.tuple #[.agg cs,.bool true]) ∧ cs = cameC (.slice ao m c) (tX k1 now) tW 1 ∧ KMade W.heap.size w' (.slice ao m c) (ticketBox (tX k1 now) tW k2) ∧ W.grownBy w' none :=
 kcame3 13 (tX k1 now) tW 1 0 5 k0 5 k2 k3 1000003 (k0.toNat : Int) v W rfl rfl len_al (by decide) ⟨by decide,by decide⟩ (tX_in k1 now h0 h1) ⟨by decide,by decide⟩ ⟨by decide,by decide⟩ ⟨by decide,by decide⟩ hv ht u64w rfl
set_option maxHeartbeats 4000000 in
theorem post_any (q : Bool) (lo hi g : Nat) (p0 p1 av : Option Addr) (cv : Nat) (d2 : List UInt8) (ao : Option Addr) (m c : Nat) (k0 k1 : UInt64) (now : Int) (w0 w : World) (hd : deskV q g = #[.pointer p0,.pointer p1]) (hS : KS q lo hi w g ⟨20,bT,[],d2⟩) (hX : KX lo hi w (.slice ao m c) (ticketBox (tP k0) tT k1)) (hhi : hi ≤ w.heap.size) (hbel : Below w0.heap.size w0 w) (hlo : w0.heap.size ≤ lo) (htab : TabHere w0) (hdl : d2.length = 456) (hn0 : 1000 ≤ now) (hn1 : now ≤ 1149) :
  Calls Tryz.prog 26 #[.agg #[.pointer p0,.pointer p1,.int .i64 20,.slice av 480 cv,.int .i64 100,.int .i64 100,.int .i64 100],.agg #[.slice ao m c,.int .i64 56,.int .i64 1000,.int .i64 1050,.int .i64 1150,.int .i64 0,.int .u64 (k0.toNat : Int),.string ⟨#[97,108]⟩,.int .i64 0,.int .i64 56,.int .i64 1000,.int .i64 1050,.int .i64 1150,.int .i64 0,.int .u64 (k0.toNat : Int),.string ⟨#[116,103,115]⟩,.int .i64 1],.int .i64 now] w fun e w' => e = .returned (.bool true) ∧ Below w0.heap.size w0 w' ∧ FR lo hi w w' := by
 have HD := hid hd
 have HTab := hid htab
 have HDl := hid hdl
 have HIn : Hid (In64 now) := in_of hn0 (by omega)
 have HW := hid (And.intro hS (And.intro hX (And.intro hhi (And.intro hbel hlo))))
 clear hd htab hdl hS hX hhi hbel hlo
 go_enter Tryz.func26,Tryz.ntmps26
 go_upto_region 1 with fail
 refine wp_genK (fun V => KB w0 lo hi w.heap.size #[.pointer p0,.pointer p1,.int .i64 20,.slice av 480 cv,.int .i64 100,.int .i64 100,.int .i64 100] V ∧ KS q lo hi V g ⟨20,bT,[],d2⟩ ∧ KX lo hi V (.slice ao m c) (ticketBox (tP k0) tT k1) ∧ Blk V (w.heap.size + 1) #[.slice ao m c,.int .i64 56,.int .i64 1000,.int .i64 1050,.int .i64 1150,.int .i64 0,.int .u64 (k0.toNat : Int),.string ⟨#[97,108]⟩,.int .i64 0,.int .i64 56,.int .i64 1000,.int .i64 1050,.int .i64 1150,.int .i64 0,.int .u64 (k0.toNat : Int),.string ⟨#[116,103,115]⟩,.int .i64 1] ∧ FR lo hi w V) ?_ ?_
 ·obtain ⟨hS,hX,hhi,hbel,hlo⟩ := HW.out
  have G0 := gb_allocs w (.cells #[.pointer p0,.pointer p1,.int .i64 20,.slice av 480 cv,.int .i64 100,.int .i64 100,.int .i64 100] 34) (.cells #[.slice ao m c,.int .i64 56,.int .i64 1000,.int .i64 1050,.int .i64 1150,.int .i64 0,.int .u64 (k0.toNat : Int),.string ⟨#[97,108]⟩,.int .i64 0,.int .i64 56,.int .i64 1000,.int .i64 1050,.int .i64 1150,.int .i64 0,.int .u64 (k0.toNat : Int),.string ⟨#[116,103,115]⟩,.int .i64 1] 44)
  have hlh : lo ≤ hi := Nat.le_of_lt (Nat.lt_of_le_of_lt hS.1 hS.2.1)
  refine ⟨⟨hbel.trans ((gb_below G0).mono (Nat.le_trans hlo (Nat.le_trans hlh hhi))),Nat.le_trans hhi G0.size,(Blk.new w _ _).alloc _,hhi,hlo,hlh⟩,hS.gb G0,hX.fr (FR.gb G0),?_,FR.gb G0⟩
  have h := Blk.new (w.alloc (.cells #[.pointer p0,.pointer p1,.int .i64 20,.slice av 480 cv,.int .i64 100,.int .i64 100,.int .i64 100] 34)) #[.slice ao m c,.int .i64 56,.int .i64 1000,.int .i64 1050,.int .i64 1150,.int .i64 0,.int .u64 (k0.toNat : Int),.string ⟨#[97,108]⟩,.int .i64 0,.int .i64 56,.int .i64 1000,.int .i64 1050,.int .i64 1150,.int .i64 0,.int .u64 (k0.toNat : Int),.string ⟨#[116,103,115]⟩,.int .i64 1] 44
  rw [World.size_alloc] at h
  exact h
 rintro V ⟨hK,hS,hX,hB,hFR⟩
 have HFR := hid hFR
 clear hFR
 have HK := hid hK
 have HS := hid hS
 have HX := hid hX
 have HB := hid hB
 have e0 : V.cell? ⟨w.heap.size + 1,0,none⟩ = some (.slice ao m c) := hB.cell 0
 have e1 : V.cell? ⟨w.heap.size + 1,1,none⟩ = some (.int .i64 56) := hB.cell 1
 have e3 : V.cell? ⟨w.heap.size + 1,3,none⟩ = some (.int .i64 1050) := hB.cell 3
 have e4 : V.cell? ⟨w.heap.size + 1,4,none⟩ = some (.int .i64 1150) := hB.cell 4
 have e6 : V.cell? ⟨w.heap.size + 1,6,none⟩ = some (.int .u64 (k0.toNat : Int)) := hB.cell 6
 have HCbh : Hid (hi ≤ w.heap.size + 1) := Nat.le_succ_of_le HW.out.2.2.1
 have HNn := hid (And.intro hn0 hn1)
 clear hK hS hX hB hn0 hn1 HW
 have HN1 := hid (next_tt lo hi (tP k0) k1 1 1 (.slice ao m c) now 0 nWeb V HK.out.size HX.out rfl (by decide) HIn.out ⟨by decide,by decide⟩ rfl (by decide))
 go_wp2_with fail
 refine HN1.out.mono ?_
 clear HN1
 rintro e w2 ⟨a_w2,m_w2,c_w2,rfl,x1,g1⟩
 have HG_w2 := hid g1
 have HQ_w2 := hid x1
 clear x1 g1
 have HFR2 := hid (HFR.out.trans (FR.gb HG_w2.out))
 have HK2 := hid (HK.out.fr (FR.gb HG_w2.out))
 have HS2 := hid (HS.out.gb HG_w2.out)
 have HX2 := hid (HX.out.fr (FR.gb HG_w2.out))
 have HB2 := hid (HB.out.grown HG_w2.out (by simp))
 have HQv := HQ_w2
 clear e0 e1 e3 e4 e6
 have y0 : w2.cell? ⟨w.heap.size,0,none⟩ = some (.pointer p0) := HK2.out.house.cell 0
 have y1 : w2.cell? ⟨w.heap.size,1,none⟩ = some (.pointer p1) := HK2.out.house.cell 1
 have HLq : Hid ((nextReq (ticketBox (tP k0) tT k1) (sealedProof (tP k0) 1 now) nWeb 1 0 0).length ≤ 300) := nextq_len _ _ _ _ _ _ _ _ _ len_al (by decide) (by decide)
 have HAn := hid (kans2 q lo hi g p0 p1 ⟨20,bT,[],d2⟩ ⟨20,bT,[⟨nAl,now,((1 : UInt64).toNat : Int)⟩],d2⟩ now (nextReq (ticketBox (tP k0) tT k1) (sealedProof (tP k0) 1 now) nWeb 1 0 0) (refusalBox now 33) (.slice a_w2 m_w2 c_w2) w2 HD.out (post_x d2 k0 k1 now HNn.out.1 HNn.out.2) HS2.out (bT_ok [] d2 (pf_now HIn.out _ (by simp))) HQv.out HLq.out (refusal_len _ _) HIn.out HK2.out.size)
 go_wp2_with fail
 refine HAn.out.mono ?_
 clear HAn HLq
 rintro e w3 ⟨a_w3,m_w3,c_w3,rfl,x1,s1,f1⟩
 have HR_w3 := hid x1
 have HS_w3 := hid s1
 have HF_w3 := hid f1
 clear x1 s1 f1
 have HFR3 := hid (HFR2.out.trans HF_w3.out)
 have HK3 := hid (HK2.out.fr HF_w3.out)
 have HX3 := hid (HX2.out.fr HF_w3.out)
 have HB3 := hid (HB2.out.fr HF_w3.out (.inr HCbh.out))
 have HCo := hid (kcode_any now 33 (.slice a_w3 m_w3 c_w3) w3 HIn.out ⟨by decide,by decide⟩ HR_w3.out.1 (HK3.out.tab HTab.out))
 clear y0 y1 HQv
 go_wp2_with fail
 refine HCo.out.mono ?_
 clear HCo
 rintro e w4 ⟨rfl,g1⟩
 have HFR4 := hid (HFR3.out.trans (FR.gb g1))
 have HK4 := hid (HK3.out.fr (FR.gb g1))
 have HS4 := hid (HS_w3.out.gb g1)
 have HX4 := hid (HX3.out.fr (FR.gb g1))
 have HB4 := hid (HB3.out.grown g1 (by simp))
 have e0 : w4.cell? ⟨w.heap.size + 1,0,none⟩ = some (.slice ao m c) := HB4.out.cell 0
 have e6 : w4.cell? ⟨w.heap.size + 1,6,none⟩ = some (.int .u64 (k0.toNat : Int)) := HB4.out.cell 6
 clear g1
 have HN1 := hid (next_tt lo hi (tP k0) k1 2 2 (.slice ao m c) now 32 nTgs w4 HK4.out.size HX4.out rfl (by decide) HIn.out ⟨by decide,by decide⟩ rfl (by decide))
 go_wp2_with fail
 refine HN1.out.mono ?_
 clear HN1
 rintro e w5 ⟨a_w5,m_w5,c_w5,rfl,x1,g1⟩
 have HG_w5 := hid g1
 have HQ_w5 := hid x1
 clear x1 g1
 have HFR5 := hid (HFR4.out.trans (FR.gb HG_w5.out))
 have HK5 := hid (HK4.out.fr (FR.gb HG_w5.out))
 have HS5 := hid (HS4.out.gb HG_w5.out)
 have HB5 := hid (HB4.out.grown HG_w5.out (by simp))
 have HQv := HQ_w5
 clear e0 e6
 have y0 : w5.cell? ⟨w.heap.size,0,none⟩ = some (.pointer p0) := HK5.out.house.cell 0
 have y1 : w5.cell? ⟨w.heap.size,1,none⟩ = some (.pointer p1) := HK5.out.house.cell 1
 by_cases hearly : now < 1050
 ·have HE := hid (post_early d2 k0 k1 now HNn.out.1 hearly)
  have HLq : Hid ((nextReq (ticketBox (tP k0) tT k1) (sealedProof (tP k0) 2 now) nTgs 1 0 32).length ≤ 300) := nextq_len _ _ _ _ _ _ _ _ _ len_al (by decide) (by decide)
  have HAn := hid (kans2 q lo hi g p0 p1 ⟨20,bT,[⟨nAl,now,((1 : UInt64).toNat : Int)⟩],d2⟩ ⟨20,bT,[⟨nAl,now,((1 : UInt64).toNat : Int)⟩,⟨nAl,now,((2 : UInt64).toNat : Int)⟩],d2⟩ now (nextReq (ticketBox (tP k0) tT k1) (sealedProof (tP k0) 2 now) nTgs 1 0 32) (refusalBox now 33) (.slice a_w5 m_w5 c_w5) w5 HD.out HE.out HS5.out (bT_ok [⟨nAl,now,((1 : UInt64).toNat : Int)⟩] d2 (pf_now HIn.out _ (by simp))) HQv.out HLq.out (refusal_len _ _) HIn.out HK5.out.size)
  go_wp2_with fail
  refine HAn.out.mono ?_
  clear HAn HLq
  rintro e w6 ⟨a_w6,m_w6,c_w6,rfl,x1,s1,f1⟩
  have HR_w6 := hid x1
  have HS_w6 := hid s1
  have HF_w6 := hid f1
  clear x1 s1 f1
  have HK6 := hid (HK5.out.fr HF_w6.out)
  have HCo := hid (kcode_any now 33 (.slice a_w6 m_w6 c_w6) w6 HIn.out ⟨by decide,by decide⟩ HR_w6.out.1 (HK6.out.tab HTab.out))
  clear y0 y1 HQv
  go_wp2_with fail
  refine HCo.out.mono ?_
  clear HCo
  rintro e w7 ⟨rfl,g1⟩
  have HKe := hid (HK6.out.fr (FR.gb g1))
  have HFRe := hid ((HFR5.out.trans HF_w6.out).trans (FR.gb g1))
  clear g1
  go_wp2
  go_ret
  exact ⟨rfl,HKe.out.below,HFRe.out⟩
 ·have hb : decide (now < 1050) = false := by simpa using hearly
  have hge : 1050 ≤ now := by omega
  obtain ⟨j0,hj0⟩ : ∃ k,drawAt d2 0 = k := ⟨_,rfl⟩
  obtain ⟨j1,hj1⟩ : ∃ k,drawAt d2 1 = k := ⟨_,rfl⟩
  obtain ⟨j2,hj2⟩ : ∃ k,drawAt d2 2 = k := ⟨_,rfl⟩
  have HE := hid (post_valid d2 k0 k1 now hge HNn.out.2 (by rw [HDl.out]; decide))
  rw [hj0,hj1,hj2] at HE
  obtain ⟨d3,hd3⟩ : ∃ d,d2.drop 24 = d := ⟨_,rfl⟩
  have HDl3 := hid (show d3.length = 432 by rw [← hd3,List.length_drop,HDl.out])
  rw [hd3] at HE
  have HGe := hid hge
  clear hj0 hj1 hj2 hd3 hearly hge
  have HLq : Hid ((nextReq (ticketBox (tP k0) tT k1) (sealedProof (tP k0) 2 now) nTgs 1 0 32).length ≤ 300) := nextq_len _ _ _ _ _ _ _ _ _ len_al (by decide) (by decide)
  have HAn := hid (kans2 q lo hi g p0 p1 ⟨20,bT,[⟨nAl,now,((1 : UInt64).toNat : Int)⟩],d2⟩ ⟨20,bT,[⟨nAl,now,((1 : UInt64).toNat : Int)⟩,⟨nAl,now,((2 : UInt64).toNat : Int)⟩],d3⟩ now (nextReq (ticketBox (tP k0) tT k1) (sealedProof (tP k0) 2 now) nTgs 1 0 32) (giveBox 13 (tV j0) tT 1 0 k0 5 j1 j2) (.slice a_w5 m_w5 c_w5) w5 HD.out HE.out HS5.out (bT_ok [⟨nAl,now,((1 : UInt64).toNat : Int)⟩] d2 (pf_now HIn.out _ (by simp))) HQv.out HLq.out (give_len _ _ _ _ _ _ _ _ _ len_al (by decide)) HIn.out HK5.out.size)
  go_wp2_with fail
  refine HAn.out.mono ?_
  clear HAn HLq
  rintro e w6 ⟨a_w6,m_w6,c_w6,rfl,x1,s1,f1⟩
  have HR_w6 := hid x1
  have HS_w6 := hid s1
  have HF_w6 := hid f1
  clear x1 s1 f1
  have HK6 := hid (HK5.out.fr HF_w6.out)
  have HB6 := hid (HB5.out.fr HF_w6.out (.inr HCbh.out))
  have e6 : w6.cell? ⟨w.heap.size + 1,6,none⟩ = some (.int .u64 (k0.toNat : Int)) := HB6.out.cell 6
  have HCm := hid (came_v k0 j0 j1 j2 w6 (.slice a_w6 m_w6 c_w6) HR_w6.out.1 (HK6.out.tab HTab.out))
  clear y0 y1 HQv
  go_wp2_with fail
  refine HCm.out.mono ?_
  clear HCm e6
  rintro e w7 ⟨cs,ao7,m7,c7,rfl,hcs,x7,g7⟩
  have HCs := hid hcs
  have hsz := came_size hcs
  have hst := run_store_live (P := Tryz.prog) cs.toList (came_live (Blk.new w7 zeroCame 44)) (by rw [Array.length_toList,hsz]; exact Nat.le_refl _) (came_one hcs)
  have HX7 : Hid (KX lo hi w7 (.slice ao7 m7 c7) (ticketBox (tV j0) tT j1)) := KX.made x7 HK6.out.size
  have HNe := hid (place_ne x7 (cb := w7.heap.size) (.inr (Nat.le_refl _)))
  have HS7 := hid (HS_w6.out.gb g7)
  have HK7 := hid (HK6.out.fr (FR.gb g7))
  have HFR7 := hid ((HFR5.out.trans HF_w6.out).trans (FR.gb g7))
  clear hcs x7 g7
  go_upto_region 12 with fail
  refine wp_genK (fun V => KB w0 lo hi w.heap.size #[.pointer p0,.pointer p1,.int .i64 20,.slice av 480 cv,.int .i64 100,.int .i64 100,.int .i64 100] V ∧ KS q lo hi V g ⟨20,bT,[⟨nAl,now,((1 : UInt64).toNat : Int)⟩,⟨nAl,now,((2 : UInt64).toNat : Int)⟩],d3⟩ ∧ KX lo hi V (.slice ao7 m7 c7) (ticketBox (tV j0) tT j1) ∧ Blk V w7.heap.size (cameC (.slice ao7 m7 c7) (tV j0) tT 1) ∧ FR lo hi w V) ⟨HK7.out.fr (FR.stores (FR.alloc (FR.refl _ _ _) _) _ _ (Nat.le_refl _)),(HS7.out.gb (gb_alloc0 w7 _)).cf (cfs _ _ _) (fun b y e => .inr (by rw [e]; exact HK7.out.size)),(HX7.out.fr (FR.gb (gb_alloc0 w7 _))).cf (cfs _ _ _) (fun b off n c e o e2 => HNe.out b off n c e e2),came_put (Blk.new w7 zeroCame 44) HCs.out,HFR7.out.trans (FR.stores (FR.alloc (FR.refl _ _ _) _) _ _ (Nat.le_refl _))⟩ ?_
  rintro V8 ⟨hK,hS,hX,hB,hFR⟩
  have HFR8 := hid hFR
  clear hFR
  have HK8 := hid hK
  have HS8 := hid hS
  have HX8 := hid hX
  have HB8 := hid hB
  have HC8 : Hid (hi ≤ w7.heap.size) := HK7.out.size
  have e0 : V8.cell? ⟨w7.heap.size,0,none⟩ = some (.slice ao7 m7 c7) := hB.cell 0
  have e1 : V8.cell? ⟨w7.heap.size,1,none⟩ = some (.int .i64 40) := hB.cell 1
  have e3 : V8.cell? ⟨w7.heap.size,3,none⟩ = some (.int .i64 1050) := hB.cell 3
  have e4 : V8.cell? ⟨w7.heap.size,4,none⟩ = some (.int .i64 1150) := hB.cell 4
  have e6 : V8.cell? ⟨w7.heap.size,6,none⟩ = some (.int .u64 (j0.toNat : Int)) := hB.cell 6
  clear hK hS hX hB hst hsz
  have HN1 := hid (next_tt lo hi (tV j0) j1 3 3 (.slice ao7 m7 c7) now 0 nWeb V8 HK8.out.size HX8.out rfl (by decide) HIn.out ⟨by decide,by decide⟩ rfl (by decide))
  go_wp2_with fail
  refine HN1.out.mono ?_
  clear HN1
  rintro e V9 ⟨a_V9,m_V9,c_V9,rfl,x1,g1⟩
  have HG_V9 := hid g1
  have HQ_V9 := hid x1
  clear x1 g1
  have HKV := hid (HK8.out.fr (FR.gb HG_V9.out))
  have HFRV := hid (HFR8.out.trans (FR.gb HG_V9.out))
  have HSV := hid (HS8.out.gb HG_V9.out)
  have HCb := hid (HB8.out.grown HG_V9.out (by simp))
  clear e0 e1 e3 e4 e6 HK HS HK2 HS2 HK3 HK4 HS4 HK5 HS5 HX HX2 HX3 HX4 HB HB2 HB3 HB4 HB5 HB6 HK6 HK7 HS7 HK8 HS8 HB8
  obtain ⟨i0,hi0⟩ : ∃ k,drawAt d3 0 = k := ⟨_,rfl⟩
  obtain ⟨i1,hi1⟩ : ∃ k,drawAt d3 1 = k := ⟨_,rfl⟩
  obtain ⟨i2,hi2⟩ : ∃ k,drawAt d3 2 = k := ⟨_,rfl⟩
  have HA := hid (post_web d3 j0 j1 now HGe.out HNn.out.2 (by rw [HDl3.out]; decide))
  rw [hi0,hi1,hi2] at HA
  clear hi0 hi1 hi2
  have HM := hid (bT_ok [⟨nAl,now,((1 : UInt64).toNat : Int)⟩,⟨nAl,now,((2 : UInt64).toNat : Int)⟩] d3 (pf_now HIn.out _ (by simp)))
  have HLq : Hid ((nextReq (ticketBox (tV j0) tT j1) (sealedProof (tV j0) 3 now) nWeb 1 0 0).length ≤ 300) := nextq_len _ _ _ _ _ _ _ _ _ len_al (by decide) (by decide)
  have HLr : Hid ((giveBox 13 (tX i0 now) tW 1 0 j0 5 i1 i2).length ≤ 900) := give_len _ _ _ _ _ _ _ _ _ len_al (by decide)
  have HNow := HIn
  have HC1 := hid (came_x j0 i0 i1 i2 now HNn.out.1 (by have := HNn.out.2; omega))
  have HVh := hid HKV.out.size
  have e6 : V9.cell? ⟨w7.heap.size,6,none⟩ = some (.int .u64 (j0.toNat : Int)) := HCb.out.cell 6
  have y0 : V9.cell? ⟨w.heap.size,0,none⟩ = some (.pointer p0) := HKV.out.house.cell 0
  have y1 : V9.cell? ⟨w.heap.size,1,none⟩ = some (.pointer p1) := HKV.out.house.cell 1
  go_upto_region 15 with fail
  go_cut [14] (fun okv wx => okv = .bool true ∧ FR lo hi V9 wx)
  case first =>
   obtain ⟨a5,m5,c5,h5⟩ : ∃ a5 m5 c5,Hid ((a5 : Option Addr) = a_V9 ∧ (m5 : Nat) = m_V9 ∧ (c5 : Nat) = c_V9) := ⟨_,_,_,hid ⟨rfl,rfl,rfl⟩⟩
   obtain ⟨rfl,rfl,rfl⟩ := h5.out
   obtain ⟨V,hV⟩ : ∃ V,Hid (V = V9) := ⟨_,hid rfl⟩
   obtain rfl := hV.out
   have X5 := HQ_V9
   have HK := HKV
   have HS := HSV
   clear h5 hV
   have HSk : Hid (∀ W,FR lo hi V W → (fun w' => w'.cell? ⟨w.heap.size,0,none⟩ = some (.pointer p0) ∧ w'.cell? ⟨w.heap.size,1,none⟩ = some (.pointer p1) ∧ w'.cell? ⟨w7.heap.size,6,none⟩ = some (.int .u64 (j0.toNat : Int))) W) := fun W k => ⟨(HK.out.fr k).house.cell 0,(HK.out.fr k).house.cell 1,(HCb.out.fr k (.inr HC8.out)).cell 6⟩
   go_region_held3 (fun w' => w'.cell? ⟨w.heap.size,0,none⟩ = some (.pointer p0) ∧ w'.cell? ⟨w.heap.size,1,none⟩ = some (.pointer p1) ∧ w'.cell? ⟨w7.heap.size,6,none⟩ = some (.int .u64 (j0.toNat : Int))) (exact HSk.out _ (by (repeat first | with_reducible exact F3.out | with_reducible exact F2.out | with_reducible exact F1.out | with_reducible exact FR.refl _ _ _ | with_reducible refine FR.alloc ?_ _ | with_reducible refine FR.drew ?_ | with_reducible refine FR.stores ?_ _ _ (by first | exact Nat.le_refl _ | exact F1.out.size | exact F2.out.size | exact F3.out.size)))) (first
    | (go_at_call 17; refine (kans2 q lo hi g p0 p1 ⟨20,bT,[⟨nAl,now,((1 : UInt64).toNat : Int)⟩,⟨nAl,now,((2 : UInt64).toNat : Int)⟩],d3⟩ ⟨20,bT,[⟨nAl,now,((1 : UInt64).toNat : Int)⟩,⟨nAl,now,((2 : UInt64).toNat : Int)⟩,⟨nAl,now,((3 : UInt64).toNat : Int)⟩],d3.drop 24⟩ now (nextReq (ticketBox (tV j0) tT j1) (sealedProof (tV j0) 3 now) nWeb 1 0 0) (giveBox 13 (tX i0 now) tW 1 0 j0 5 i1 i2) (.slice a5 m5 c5) _ HD.out HA.out (HS.out.gb (by (repeat first | with_reducible exact G1.out | with_reducible exact World.grownBy.refl _ _ | with_reducible refine gb_alloc ?_ _ | with_reducible refine gb_drew1 ?_))) HM.out (X5.out.fr (FR.gb (by (repeat first | with_reducible exact World.grownBy.refl _ _ | with_reducible refine gb_alloc ?_ _ | with_reducible refine gb_drew1 ?_)))) HLq.out HLr.out HNow.out (Nat.le_trans HVh.out (FR.size (lo := lo) (hi := hi) (a := V) (by (repeat first | with_reducible exact F3.out | with_reducible exact F2.out | with_reducible exact F1.out | with_reducible exact FR.refl _ _ _ | with_reducible refine FR.alloc ?_ _ | with_reducible refine FR.drew ?_ | with_reducible refine FR.stores ?_ _ _ (by first | exact Nat.le_refl _ | exact F1.out.size | exact F2.out.size | exact F3.out.size)))))).mono ?_; rintro e w6 ⟨a6,m6,c6,rfl,x6,s6,f6⟩; have F2 : Hid (FR lo hi V w6) := FR.trans (by (repeat first | with_reducible exact F3.out | with_reducible exact F2.out | with_reducible exact F1.out | with_reducible exact FR.refl _ _ _ | with_reducible refine FR.alloc ?_ _ | with_reducible refine FR.drew ?_ | with_reducible refine FR.stores ?_ _ _ (by first | exact Nat.le_refl _ | exact F1.out.size | exact F2.out.size | exact F3.out.size))) f6; have X6 := hid (And.intro x6 s6); clear x6 s6 f6)
    | (go_at_call 19; refine (HC1.out _ (.slice a6 m6 c6) (X6.out.1.fr (FR.gb (by (repeat first | with_reducible exact World.grownBy.refl _ _ | with_reducible refine gb_alloc ?_ _ | with_reducible refine gb_drew1 ?_)))).1 (KB.tab (HK.out.fr (by (repeat first | with_reducible exact F3.out | with_reducible exact F2.out | with_reducible exact F1.out | with_reducible exact FR.refl _ _ _ | with_reducible refine FR.alloc ?_ _ | with_reducible refine FR.drew ?_ | with_reducible refine FR.stores ?_ _ _ (by first | exact Nat.le_refl _ | exact F1.out.size | exact F2.out.size | exact F3.out.size)))) HTab.out)).mono ?_; rintro e w7 ⟨cs,ao,m7,c7,rfl,hcs,x7,g7⟩; have HCs := hid hcs; clear hcs; have S7 : Hid (KS q lo hi w7 g ⟨20,bT,[⟨nAl,now,((1 : UInt64).toNat : Int)⟩,⟨nAl,now,((2 : UInt64).toNat : Int)⟩,⟨nAl,now,((3 : UInt64).toNat : Int)⟩],d3.drop 24⟩) := X6.out.2.gb (gb_trans (by (repeat first | with_reducible exact World.grownBy.refl _ _ | with_reducible refine gb_alloc ?_ _ | with_reducible refine gb_drew1 ?_)) g7); have X7 : Hid (KX lo hi w7 (.slice ao m7 c7) (ticketBox (tX i0 now) tW i1)) := KX.made x7 (Nat.le_trans HVh.out (FR.size (lo := lo) (hi := hi) (a := V) (by (repeat first | with_reducible exact F3.out | with_reducible exact F2.out | with_reducible exact F1.out | with_reducible exact FR.refl _ _ _ | with_reducible refine FR.alloc ?_ _ | with_reducible refine FR.drew ?_ | with_reducible refine FR.stores ?_ _ _ (by first | exact Nat.le_refl _ | exact F1.out.size | exact F2.out.size | exact F3.out.size))))); have F3 : Hid (FR lo hi V w7) := FR.trans (by (repeat first | with_reducible exact F3.out | with_reducible exact F2.out | with_reducible exact F1.out | with_reducible exact FR.refl _ _ _ | with_reducible refine FR.alloc ?_ _ | with_reducible refine FR.drew ?_ | with_reducible refine FR.stores ?_ _ _ (by first | exact Nat.le_refl _ | exact F1.out.size | exact F2.out.size | exact F3.out.size))) (FR.gb g7); clear x7 g7))
   all_goals go_wp2
   all_goals go_meet
   all_goals exact ⟨rfl,F3.out⟩
  case rest =>
   obtain ⟨rfl,hF⟩ := hcut
   have HKe := hid (HKV.out.fr hF)
   have HFRe := hid (HFRV.out.trans hF)
   clear hF
   go_wp2
   go_ret
   exact ⟨rfl,HKe.out.below,HFRe.out⟩
end Go.Proofs.YtbanfbpfapjfcaaGreatDoor
namespace Go.Proofs.YtbanfbpfapjfcaaGreatDoor
open Go.RowKit
set_option maxRecDepth 100000
section
variable {P : Program} {ops : Array Oper} {Q : Exit → Act → World → Prop} {md : Region.Mode} {S : World → Prop}
theorem take_at {i t : Nat} {oi : Oper} (v : Value) {fuel : Nat} {listed : Array Bool} {tmps : Array Value} {df : List Deferred} {w : World} (hi : ops.toList[i]? = some oi) (hd : oi.dst = some t)
  (hs : Region.noSelect ops = true) (hf : Region.free md ops listed i = true) (hr : (Region.ready md ops listed).contains i = true)
  (hQ : ∀ c a w,Q (.panic c) (a.put oi.dst v) w → Q (.panic c) a w) (hy : YieldsIf P ops S oi v ⟨tmps,df⟩) (hS : S w)
  (h : wpAnyH P md ops Q S fuel (listed.setIfInBounds i true) ⟨tmps.setIfInBounds t v,df⟩ w) : wpAnyH P md ops Q S (fuel + 1) listed ⟨tmps,df⟩ w := by
 refine wpAnyH_take (by rw [← Array.getElem?_toList]; exact hi) hs hf hr hQ hy hS ?_
 rw [hd]
 exact h
theorem ready_one {i : Nat} {o : Oper} {fuel : Nat} {listed : Array Bool} {a : Act} {w : World} (hi : ops.toList[i]? = some o) (hr : Region.ready md ops listed = [i])
  (h : ∀ K' : Act → World → Prop,Shut (∀ a w,S w → (S w → wpAnyH P md ops Q S fuel (listed.setIfInBounds i true) a w) → K' a w) → if Region.wanted o (yielded ops a.tmps) = true then Oper.wp P o a w K' Q else K' (a.put o.dst undef) w) :
  wpAnyH P md ops Q S (fuel + 1) listed a w :=
 wpAnyH_ready (rs := [i]) hr (by simp) (AllReadyH.cons (by rw [← Array.getElem?_toList]; exact hi) h AllReadyH.nil)
end
theorem u64a : (1000002 : Int) = ((1000002 : UInt64).toNat : Int) := by decide
theorem first_tt (lo hi : Nat) (from0 opts : Int) (h1 : In64 from0) (h2 : In64 opts) (W : World) (h : hi ≤ W.heap.size) : Calls Tryz.prog 18 #[.string ⟨#[97,108]⟩,.string ⟨#[116,103,115]⟩,.int .i64 1,.int .i64 from0,.int .i64 0,.int .i64 0,.int .i64 opts] W fun e w' => ∃ a m c,e = .returned (.slice a m c) ∧ KX lo hi w' (.slice a m c) (firstReq nAl nTgs 1 from0 0 0 opts) ∧ W.grownBy w' none := kfirst2 lo hi nAl nTgs 1 from0 0 0 opts W h (by decide) (by decide) ⟨by decide,by decide⟩ h1 ⟨by decide,by decide⟩ ⟨by decide,by decide⟩ h2
theorem came_tc (k1 k2 k3 : UInt64) (W : World) (v : Value) (hv : KH W v (giveBox 11 (tC k1) tT 1 1 1000002 3 k2 k3)) (ht : TabHere W) : Calls Tryz.prog 19 #[v,.int .i64 11,.string ⟨#[97,108]⟩,.string ⟨#[116,103,115]⟩,.int .i64 1,.int .u64 1000001,.int .i64 1,.int .u64 1000002,.int .i64 3] W fun e w' => ∃ cs ao m c,e = .returned (.tuple #[.agg cs,.bool true]) ∧ cs = cameC (.slice ao m c) (tC k1) tT 1 ∧ KMade W.heap.size w' (.slice ao m c) (ticketBox (tC k1) tT k2) ∧ W.grownBy w' none :=
 kcame3 11 (tC k1) tT 1 1 3 1000002 3 k2 k3 1000001 1000002 v W rfl rfl len_al (by decide) ⟨by decide,by decide⟩ (tC_in k1) ⟨by decide,by decide⟩ ⟨by decide,by decide⟩ ⟨by decide,by decide⟩ hv ht u64t u64a
theorem came_tp (k1 k2 k3 : UInt64) (W : World) (v : Value) (hv : KH W v (giveBox 11 (tP k1) tT 1 1 1000002 3 k2 k3)) (ht : TabHere W) : Calls Tryz.prog 19 #[v,.int .i64 11,.string ⟨#[97,108]⟩,.string ⟨#[116,103,115]⟩,.int .i64 1,.int .u64 1000001,.int .i64 1,.int .u64 1000002,.int .i64 3] W fun e w' => ∃ cs ao m c,e = .returned (.tuple #[.agg cs,.bool true]) ∧ cs = cameC (.slice ao m c) (tP k1) tT 1 ∧ KMade W.heap.size w' (.slice ao m c) (ticketBox (tP k1) tT k2) ∧ W.grownBy w' none :=
 kcame3 11 (tP k1) tT 1 1 3 1000002 3 k2 k3 1000001 1000002 v W rfl rfl len_al (by decide) ⟨by decide,by decide⟩ (tP_in k1) ⟨by decide,by decide⟩ ⟨by decide,by decide⟩ ⟨by decide,by decide⟩ hv ht u64t u64a
theorem came_te (k1 k2 k3 : UInt64) (now : Int) (h0 : 1000 ≤ now) (h1 : now ≤ 2000) (W : World) (v : Value) (hv : KH W v (giveBox 11 (tE k1 now) tT 1 1 1000002 3 k2 k3)) (ht : TabHere W) : Calls Tryz.prog 19 #[v,.int .i64 11,.string ⟨#[97,108]⟩,.string ⟨#[116,103,115]⟩,.int .i64 1,.int .u64 1000001,.int .i64 1,.int .u64 1000002,.int .i64 3] W fun e w' => ∃ cs ao m c,e = .returned (.tuple #[.agg cs,.bool true]) ∧ cs = cameC (.slice ao m c) (tE k1 now) tT 1 ∧ KMade W.heap.size w' (.slice ao m c) (ticketBox (tE k1 now) tT k2) ∧ W.grownBy w' none :=
 kcame3 11 (tE k1 now) tT 1 1 3 1000002 3 k2 k3 1000001 1000002 v W rfl rfl len_al (by decide) ⟨by decide,by decide⟩ (tE_in k1 now h0 h1) ⟨by decide,by decide⟩ ⟨by decide,by decide⟩ ⟨by decide,by decide⟩ hv ht u64t u64a
theorem came_td (k0 k1 k2 k3 : UInt64) (now : Int) (h0 : 1000 ≤ now) (h1 : now ≤ 2000) (W : World) (v : Value) (hv : KH W v (giveBox 13 (tD k1 now) tT 1 0 k0 5 k2 k3)) (ht : TabHere W) : Calls Tryz.prog 19 #[v,.int .i64 13,.string ⟨#[97,108]⟩,.string ⟨#[116,103,115]⟩,.int .i64 1,.int .u64 1000001,.int .i64 0,.int .u64 (k0.toNat : Int),.int .i64 5] W fun e w' => ∃ cs ao m c,e = .returned (.tuple #[.agg cs,.bool true]) ∧ cs = cameC (.slice ao m c) (tD k1 now) tT 1 ∧ KMade W.heap.size w' (.slice ao m c) (ticketBox (tD k1 now) tT k2) ∧ W.grownBy w' none :=
 kcame3 13 (tD k1 now) tT 1 0 5 k0 5 k2 k3 1000001 (k0.toNat : Int) v W rfl rfl len_al (by decide) ⟨by decide,by decide⟩ (tD_in k1 now h0 h1) ⟨by decide,by decide⟩ ⟨by decide,by decide⟩ ⟨by decide,by decide⟩ hv ht u64t rfl
theorem came_tf (k0 k1 k2 k3 : UInt64) (now : Int) (h0 : 1000 ≤ now) (h1 : now ≤ 2000) (W : World) (v : Value) (hv : KH W v (giveBox 13 (tF k1 now) tW 1 0 k0 5 k2 k3)) (ht : TabHere W) : Calls Tryz.prog 19 #[v,.int .i64 13,.string ⟨#[97,108]⟩,.string ⟨#[119,101,98]⟩,.int .i64 1,.int .u64 1000003,.int .i64 0,.int .u64 (k0.toNat : Int),.int .i64 5] W fun e w' => ∃ cs ao m c,e = .returned (.tuple #[.agg cs,.bool true]) ∧ cs = cameC (.slice ao m c) (tF k1 now) tW 1 ∧ KMade W.heap.size w' (.slice ao m c) (ticketBox (tF k1 now) tW k2) ∧ W.grownBy w' none :=
 kcame3 13 (tF k1 now) tW 1 0 5 k0 5 k2 k3 1000003 (k0.toNat : Int) v W rfl rfl len_al (by decide) ⟨by decide,by decide⟩ (tF_in k1 now h0 h1) ⟨by decide,by decide⟩ ⟨by decide,by decide⟩ ⟨by decide,by decide⟩ hv ht u64w rfl
end Go.Proofs.YtbanfbpfapjfcaaGreatDoor
