/-
  
  
  
  
-/
import Derived.Test.YtpijkgbafjccaaaGreatDoorGTKSmall
namespace Go.Proofs.YtpijkgbafjccaaaGreatDoor
open Go.RowKit
set_option maxRecDepth 100000
def tkPies (t : TK) : List Pie := [numP t.flags,txtP (Pure.be t.session 8),txtP t.client,numP t.auth,numP t.start,numP t.fin,numP t.renew]
theorem tk_plain (t : TK) : t.plain = Box.box 48 (catP (tkPies t)) := rfl
def grantC (flags auth start fin renew : Int) (session : UInt64) (who : List UInt8) (nonce : Int) : List Value := [.int .i64 flags,.int .i64 auth,.int .i64 start,.int .i64 fin,.int .i64 renew,.int .u64 (session.toNat : Int),.string ⟨who.toArray⟩,.int .i64 nonce]
theorem Tryz.sizeKGrant : (Tryz.prog.info? 48).map (·.size) = some 8 := by kernel_rfl
theorem tk_len (t : TK) (hc : t.client.length ≤ 20) : (catP (tkPies t)).length ≤ 82 := by
 have n1 := num10 t.flags
 have n2 := num10 t.auth
 have n3 := num10 t.start
 have n4 := num10 t.fin
 have n5 := num10 t.renew
 have t1 : (Box.box 4 (Pure.be t.session 8)).length = 10 := by rw [box_small (by rw [Pure.be_length]; omega),Pure.be_length]
 have t2 : (Box.box 4 t.client).length = t.client.length + 2 := box_small (by omega)
 unfold numBox at n1 n2 n3 n4 n5
 simp only [tkPies,catP,List.map_cons,List.map_nil,List.flatten_cons,List.flatten_nil,List.length_append,List.length_nil]
 omega
theorem tk_pies (t : TK) (hc : t.client.length ≤ 20) (ht : t.In) : (∀ p ∈ tkPies t,p.2.length ≤ 65535) ∧ ∀ p ∈ tkPies t,Tells 7 p := by
 constructor
 ·intro p hp
  simp only [tkPies,List.mem_cons,List.not_mem_nil,or_false] at hp
  rcases hp with rfl | rfl | rfl | rfl | rfl | rfl | rfl
  ·exact numP_len _
  ·show (Pure.be _ 8).length ≤ _; rw [Pure.be_length]; omega
  ·show t.client.length ≤ _; omega
  all_goals exact numP_len _
 ·intro p hp
  simp only [tkPies,List.mem_cons,List.not_mem_nil,or_false] at hp
  rcases hp with rfl | rfl | rfl | rfl | rfl | rfl | rfl
  ·exact tells_num 7 _ ht.flags
  ·exact tells_txt 7 _
  ·exact tells_txt 7 _
  ·exact tells_num 7 _ ht.auth
  ·exact tells_num 7 _ ht.start
  ·exact tells_num 7 _ ht.fin
  ·exact tells_num 7 _ ht.renew
set_option maxHeartbeats 4000000 in
theorem kticketed_any (key draw : UInt64) (t : TK) (v : Value) (w : World) (hc : t.client.length ≤ 20) (ht : t.In) (hv : KH w v (Pure.sealL key 2 draw t.plain)) (htab : TabHere w) :
  Calls Tryz.prog 27 #[.int .u64 (key.toNat : Int),v] w fun e w' => e = .returned (.tuple #[.agg (grantC t.flags t.auth t.start t.fin t.renew t.session t.client 0).toArray,.bool true]) ∧ w.grownBy w' none := by
 have hpl : t.plain.length ≤ 86 := by
  have h1 := tk_len t hc
  have h2 := box_four 48 (catP (tkPies t))
  rw [tk_plain]
  omega
 obtain ⟨hp1,hp2⟩ := tk_pies t hc ht
 obtain ⟨ao,cap,hvs,q2,q3,q4,q5⟩ := hv
 obtain ⟨L,hL⟩ : ∃ L,(Pure.sealL key 2 draw t.plain).length = L := ⟨_,rfl⟩
 have hL2 : L = t.plain.length + 16 := by rw [← hL,Pure.sealL_length]
 rw [hL] at hvs q2
 subst hvs
 have G0 := World.grownBy_alloc w (.cells #[.int .i64 0,.int .i64 0,.int .i64 0,.int .i64 0,.int .i64 0,.int .u64 0,.string ⟨#[]⟩,.int .i64 0] 48) none
 have HU := hid (wunseal_yes key 2 2 ao (Pure.sealL key 2 draw t.plain) L cap _ rfl (hid rfl) (hid hL) (by omega) (by omega) q2 (q5.below G0) (hid (Pure.opens_of key 2 draw t.plain)))
 rw [Pure.plain_of] at HU
 have HL0 := hid (Live.new w #[.int .i64 0,.int .i64 0,.int .i64 0,.int .i64 0,.int .i64 0,.int .u64 0,.string ⟨#[]⟩,.int .i64 0] 48)
 have HG0 := hid G0
 have HTb := hid htab
 have HPp := hid (And.intro hp1 hp2)
 have HPl := hid hpl
 have HT := hid ht
 clear hpl hp1 hp2 hL hL2 q2 q3 q4 q5 G0 htab ht hc
 go_enter Tryz.func27,Tryz.ntmps27
 go_wp2_with fail
 refine HU.out.mono ?_
 rintro e w1 ⟨v1,p1,rfl,o1,_,g1⟩
 have hk1 : KH w1 v1 (Box.box 48 (catP (tkPies t))) := by rw [← tk_plain]; exact KH.out o1
 have HS := hid (kshown_list (tkPies t) v1 w1 (by simp [tkPies]) HPp.out.1 HPp.out.2 (by have := HPl.out; rw [tk_plain] at this; omega) hk1 (tab_grownK HTb.out (gb_trans HG0.out g1)))
 obtain ⟨a1,c1,hv1⟩ := hk1.shape
 obtain ⟨m1,hm1⟩ : ∃ m,(Box.box 48 (catP (tkPies t))).length = m := ⟨_,rfl⟩
 rw [hm1] at hv1
 subst hv1
 have HG1 := hid (gb_trans HG0.out g1)
 have HL1 := hid (HL0.out.grown g1)
 clear o1 g1 hk1 HU hm1
 go_wp2_with fail
 refine HS.out.mono ?_
 rintro e w2 ⟨g,c,rfl,hP,g2⟩
 have hlen7 : (tkPies t).length = 7 := rfl
 rw [hlen7]
 clear hlen7
 have GA := World.grownBy_alloc w2 (.cells #[.int .u8 108,.int .i64 0,.slice none 0 0,.slice (some ⟨g,0,none⟩) 7 c] 70) none
 have hP2 := hP.keep (fun b hb => GA.block b hb.2 (by simp))
 obtain ⟨A0,A1⟩ := hP2.num 0 t.flags rfl HT.out.flags
 obtain ⟨B0,ab,cb,B2,B3,_⟩ := hP2.txt 1 (Pure.be t.session 8) rfl
 obtain ⟨C0,ac,cc,C2,C3,C4⟩ := hP2.txt 2 t.client rfl
 have C5 := hP2.ok (by simp [tkPies])
 obtain ⟨D0,D1⟩ := hP2.num 3 t.auth rfl HT.out.auth
 obtain ⟨E0,E1⟩ := hP2.num 4 t.start rfl HT.out.start
 obtain ⟨F0,F1⟩ := hP2.num 5 t.fin rfl HT.out.fin
 obtain ⟨K0,K1⟩ := hP2.num 6 t.renew rfl HT.out.renew
 have HI := hid (kis_list (tkPies t) g c ⟨#[110,116,116,110,110,110,110]⟩ _ rfl (by show 7 ≤ 100; omega) (fun k h h' => by
  match k,h' with
  | 0,_ => exact ⟨110,A0,rfl⟩
  | 1,_ => exact ⟨116,B0,rfl⟩
  | 2,_ => exact ⟨116,C0,rfl⟩
  | 3,_ => exact ⟨110,D0,rfl⟩
  | 4,_ => exact ⟨110,E0,rfl⟩
  | 5,_ => exact ⟨110,F0,rfl⟩
  | 6,_ => exact ⟨110,K0,rfl⟩))
 have HG2 := hid (gb_trans (gb_trans HG1.out g2) GA)
 have HL2 := hid ((HL1.out.grown g2).grown GA)
 rw [Pure.be_length] at B2
 have HC := hid (And.intro A1 (And.intro B2 (And.intro C2 (And.intro D1 (And.intro E1 (And.intro F1 K1))))))
 have HAt := hid (And.intro B3 C3)
 have Hok := hid (And.intro C4 C5)
 have Hs1 := hid (Nat.lt_of_lt_of_le HL1.out.lt (Nat.le_refl _))
 have HBk := hid (Blk.new w2 #[.int .u8 108,.int .i64 0,.slice none 0 0,.slice (some ⟨g,0,none⟩) 7 c] 70)
 clear HS hP hP2 A0 A1 B0 B2 B3 C0 C2 C3 C4 C5 D0 D1 E0 E1 F0 F1 K0 K1 g2 GA HL1 HG1
 go_wp2_with fail
 refine HI.out.mono ?_
 rintro e w3 ⟨rfl,g3⟩
 obtain ⟨A1,B2,C2,D1,E1,F1,K1⟩ := HC.out
 have x1 : w3.cell? ⟨g,1,none⟩ = some (.int .i64 t.flags) := g3.cell A1 (by simp)
 have x6 : w3.cell? ⟨g,6,none⟩ = some (.slice ab 8 cb) := g3.cell B2 (by simp)
 have x10 : w3.cell? ⟨g,10,none⟩ = some (.slice ac t.client.length cc) := g3.cell C2 (by simp)
 have x13 : w3.cell? ⟨g,13,none⟩ = some (.int .i64 t.auth) := g3.cell D1 (by simp)
 have x17 : w3.cell? ⟨g,17,none⟩ = some (.int .i64 t.start) := g3.cell E1 (by simp)
 have x21 : w3.cell? ⟨g,21,none⟩ = some (.int .i64 t.fin) := g3.cell F1 (by simp)
 have x25 : w3.cell? ⟨g,25,none⟩ = some (.int .i64 t.renew) := g3.cell K1 (by simp)
 have xp : w3.cell? ⟨w2.heap.size,3,none⟩ = some (.slice (some ⟨g,0,none⟩) 7 c) := g3.cell (HBk.out.cell 3) (by simp)
 have HL3 := hid (HL2.out.grown g3)
 have HG3 := hid (gb_trans HG2.out g3)
 have hat8 : At w3 ab (Pure.be t.session 8) := HAt.out.1.below g3
 have hatc : At w3 ac t.client := HAt.out.2.below g3
 have HK := hid (kkey_any (Pure.be t.session 8) 8 ab cb (w3.drewN 1) (hid (Pure.be_length _ _)) (by decide) (hat8.below (gb_drewN (World.grownBy.refl _ _) 1)))
 rw [Pure.join_be] at HK
 have rs := fun W (h : At W ac t.client) => run_string_of (P := Tryz.prog) W 26 9 5 Tryz.underlying26 Tryz.underlying5 Tryz.underlying9 ac cc t.client h
 have HSk : Hid (∀ W,CF w3 W (fun b _ => b = w.heap.size) → (fun w' => w'.cell? ⟨g,1,none⟩ = some (.int .i64 t.flags) ∧ w'.cell? ⟨g,6,none⟩ = some (.slice ab 8 cb) ∧ w'.cell? ⟨g,10,none⟩ = some (.slice ac t.client.length cc) ∧ w'.cell? ⟨g,13,none⟩ = some (.int .i64 t.auth) ∧ w'.cell? ⟨g,17,none⟩ = some (.int .i64 t.start) ∧ w'.cell? ⟨g,21,none⟩ = some (.int .i64 t.fin) ∧ w'.cell? ⟨g,25,none⟩ = some (.int .i64 t.renew) ∧ (convert 26 9 (.slice ac t.client.length cc)).run Tryz.prog w' = .ok (.string ⟨t.client.toArray⟩) w') W) := fun W k => by
  have hg : g ≠ w.heap.size := fun e => by have := Hok.out.2.1; have := Hs1.out; omega
  refine ⟨k.cell x1 hg,k.cell x6 hg,k.cell x10 hg,k.cell x13 hg,k.cell x17 hg,k.cell x21 hg,k.cell x25 hg,rs W (hatc.cf k (fun b off e j _ n => ?_))⟩
  have h1 := (Hok.out.1 b off e).1
  have h2 := Hs1.out
  omega
 have r2 := rs (w3.drewN 1) (hatc.below (gb_drewN (World.grownBy.refl _ _) 1))
 obtain ⟨⟨d0,q0⟩,⟨d1,q1⟩,⟨d2,q2⟩,⟨d3,q3⟩,⟨d4,q4⟩,⟨d5,q5⟩,⟨d6,q6⟩,⟨d7,q7⟩,f0,f1,f2,f3,f4,f5,f6,f7⟩ := live_eight HL3.out
 clear A1 B2 C2 D1 E1 F1 K1 HI HC HAt HL2 HG2 g3 hat8 hatc rs
 go_wp2_with fail
 go_region_held3 (fun w' => w'.cell? ⟨g,1,none⟩ = some (.int .i64 t.flags) ∧ w'.cell? ⟨g,6,none⟩ = some (.slice ab 8 cb) ∧ w'.cell? ⟨g,10,none⟩ = some (.slice ac t.client.length cc) ∧ w'.cell? ⟨g,13,none⟩ = some (.int .i64 t.auth) ∧ w'.cell? ⟨g,17,none⟩ = some (.int .i64 t.start) ∧ w'.cell? ⟨g,21,none⟩ = some (.int .i64 t.fin) ∧ w'.cell? ⟨g,25,none⟩ = some (.int .i64 t.renew) ∧ (convert 26 9 (.slice ac t.client.length cc)).run Tryz.prog w' = .ok (.string ⟨t.client.toArray⟩) w') (exact HSk.out _ (by (repeat refine CF.setCell ?_ _ _ _ (fun _ => rfl)); exact CF.of_gb (gb_drewN (World.grownBy.refl _ _) 1) _)) (first | (go_at_call 41; refine HK.out.mono ?_; rintro e w4 ⟨rfl,rfl⟩))
 go_wp2
 refine bodyPost_ret (results_celltmp Tryz.results27 _ _ _ w.heap.size rfl _ (load_of (eightSet (w3.drewN 1) w.heap.size _ _ _ _ _ _ _ _ q0 q1 q2 q3 q4 q5 q6 q7) 48 _ Tryz.underlying48 rfl Tryz.sizeKGrant)) rfl ⟨rfl,?_⟩
 repeat refine gb_store ?_ (Nat.le_refl _)
 exact gb_drewN HG3.out 1
end Go.Proofs.YtpijkgbafjccaaaGreatDoor
namespace Go.Proofs.YtpijkgbafjccaaaGreatDoor
open Go.RowKit
set_option maxRecDepth 100000
def ptPies (t : TK) (nonce : Int) (nm : List UInt8) : List Pie := [txtP (Pure.be t.session 8),numP nonce,numP t.flags,numP t.auth,numP t.start,numP t.fin,numP t.renew,txtP nm]
theorem pt_plain (t : TK) (nonce : Int) (s : BE) : partPlain t nonce s = Box.box 48 (catP (ptPies t nonce s.name)) := rfl
theorem pt_len (t : TK) (nonce : Int) (nm : List UInt8) (hc : nm.length ≤ 20) : (catP (ptPies t nonce nm)).length ≤ 92 := by
 have n0 := num10 nonce
 have n1 := num10 t.flags
 have n2 := num10 t.auth
 have n3 := num10 t.start
 have n4 := num10 t.fin
 have n5 := num10 t.renew
 have t1 : (Box.box 4 (Pure.be t.session 8)).length = 10 := by rw [box_small (by rw [Pure.be_length]; omega),Pure.be_length]
 have t2 : (Box.box 4 nm).length = nm.length + 2 := box_small (by omega)
 unfold numBox at n0 n1 n2 n3 n4 n5
 simp only [ptPies,catP,List.map_cons,List.map_nil,List.flatten_cons,List.flatten_nil,List.length_append,List.length_nil]
 omega
theorem pt_pies (t : TK) (nonce : Int) (nm : List UInt8) (hc : nm.length ≤ 20) (ht : t.In) (hn : In64 nonce) : (∀ p ∈ ptPies t nonce nm,p.2.length ≤ 65535) ∧ ∀ p ∈ ptPies t nonce nm,Tells 7 p := by
 constructor
 ·intro p hp
  simp only [ptPies,List.mem_cons,List.not_mem_nil,or_false] at hp
  rcases hp with rfl | rfl | rfl | rfl | rfl | rfl | rfl | rfl
  ·show (Pure.be _ 8).length ≤ _; rw [Pure.be_length]; omega
  ·exact numP_len _
  ·exact numP_len _
  ·exact numP_len _
  ·exact numP_len _
  ·exact numP_len _
  ·exact numP_len _
  ·show nm.length ≤ _; omega
 ·intro p hp
  simp only [ptPies,List.mem_cons,List.not_mem_nil,or_false] at hp
  rcases hp with rfl | rfl | rfl | rfl | rfl | rfl | rfl | rfl
  ·exact tells_txt 7 _
  ·exact tells_num 7 _ hn
  ·exact tells_num 7 _ ht.flags
  ·exact tells_num 7 _ ht.auth
  ·exact tells_num 7 _ ht.start
  ·exact tells_num 7 _ ht.fin
  ·exact tells_num 7 _ ht.renew
  ·exact tells_txt 7 _
set_option maxHeartbeats 4000000 in
theorem kparted_any (key use draw : UInt64) (x : Int) (t : TK) (nonce : Int) (s : BE) (v : Value) (w : World) (hx : isU x = true) (hu : Hid (x = use.toNat)) (hc : s.name.length ≤ 20) (ht : t.In) (hno : In64 nonce) (hv : KH w v (Pure.sealL key use draw (partPlain t nonce s))) (htab : TabHere w) :
  Calls Tryz.prog 28 #[.int .u64 (key.toNat : Int),.int .i64 x,v] w fun e w' => e = .returned (.tuple #[.agg (grantC t.flags t.auth t.start t.fin t.renew t.session s.name nonce).toArray,.bool true]) ∧ w.grownBy w' none := by
 have hpl : (partPlain t nonce s).length ≤ 96 := by
  have h1 := pt_len t nonce s.name hc
  have h2 := box_four 48 (catP (ptPies t nonce s.name))
  rw [pt_plain]
  omega
 obtain ⟨hp1,hp2⟩ := pt_pies t nonce s.name hc ht hno
 obtain ⟨ao,cap,hvs,q2,q3,q4,q5⟩ := hv
 obtain ⟨L,hL⟩ : ∃ L,(Pure.sealL key use draw (partPlain t nonce s)).length = L := ⟨_,rfl⟩
 have hL2 : L = (partPlain t nonce s).length + 16 := by rw [← hL,Pure.sealL_length]
 rw [hL] at hvs q2
 subst hvs
 have G0 := World.grownBy_alloc w (.cells #[.int .i64 0,.int .i64 0,.int .i64 0,.int .i64 0,.int .i64 0,.int .u64 0,.string ⟨#[]⟩,.int .i64 0] 48) none
 have HU := hid (wunseal_yes key use x ao (Pure.sealL key use draw (partPlain t nonce s)) L cap _ hx hu (hid hL) (by omega) (by omega) q2 (q5.below G0) (hid (Pure.opens_of key use draw (partPlain t nonce s))))
 rw [Pure.plain_of] at HU
 have HL0 := hid (Live.new w #[.int .i64 0,.int .i64 0,.int .i64 0,.int .i64 0,.int .i64 0,.int .u64 0,.string ⟨#[]⟩,.int .i64 0] 48)
 have HG0 := hid G0
 have HTb := hid htab
 have HPp := hid (And.intro hp1 hp2)
 have HPl := hid hpl
 have HT := hid (And.intro ht hno)
 clear hpl hp1 hp2 hL hL2 q2 q3 q4 q5 G0 htab ht hc hno hx hu
 go_enter Tryz.func28,Tryz.ntmps28
 go_wp2_with fail
 refine HU.out.mono ?_
 rintro e w1 ⟨v1,p1,rfl,o1,_,g1⟩
 have hk1 : KH w1 v1 (Box.box 48 (catP (ptPies t nonce s.name))) := by rw [← pt_plain]; exact KH.out o1
 have HS := hid (kshown_list (ptPies t nonce s.name) v1 w1 (by simp [ptPies]) HPp.out.1 HPp.out.2 (by have := HPl.out; rw [pt_plain] at this; omega) hk1 (tab_grownK HTb.out (gb_trans HG0.out g1)))
 obtain ⟨a1,c1,hv1⟩ := hk1.shape
 obtain ⟨m1,hm1⟩ : ∃ m,(Box.box 48 (catP (ptPies t nonce s.name))).length = m := ⟨_,rfl⟩
 rw [hm1] at hv1
 subst hv1
 have HG1 := hid (gb_trans HG0.out g1)
 have HL1 := hid (HL0.out.grown g1)
 clear o1 g1 hk1 HU hm1
 go_wp2_with fail
 refine HS.out.mono ?_
 rintro e w2 ⟨g,c,rfl,hP,g2⟩
 have hlen7 : (ptPies t nonce s.name).length = 8 := rfl
 rw [hlen7]
 clear hlen7
 have GA := World.grownBy_alloc w2 (.cells #[.int .u8 108,.int .i64 0,.slice none 0 0,.slice (some ⟨g,0,none⟩) 8 c] 70) none
 have hP2 := hP.keep (fun b hb => GA.block b hb.2 (by simp))
 obtain ⟨B0,ab,cb,B2,B3,_⟩ := hP2.txt 0 (Pure.be t.session 8) rfl
 obtain ⟨N0,N1⟩ := hP2.num 1 nonce rfl HT.out.2
 obtain ⟨A0,A1⟩ := hP2.num 2 t.flags rfl HT.out.1.flags
 obtain ⟨D0,D1⟩ := hP2.num 3 t.auth rfl HT.out.1.auth
 obtain ⟨E0,E1⟩ := hP2.num 4 t.start rfl HT.out.1.start
 obtain ⟨F0,F1⟩ := hP2.num 5 t.fin rfl HT.out.1.fin
 obtain ⟨K0,K1⟩ := hP2.num 6 t.renew rfl HT.out.1.renew
 obtain ⟨C0,ac,cc,C2,C3,C4⟩ := hP2.txt 7 s.name rfl
 have C5 := hP2.ok (by simp [ptPies])
 have HI := hid (kis_list (ptPies t nonce s.name) g c ⟨#[116,110,110,110,110,110,110,116]⟩ _ rfl (by show 8 ≤ 100; omega) (fun k h h' => by
  match k,h' with
  | 0,_ => exact ⟨116,B0,rfl⟩
  | 1,_ => exact ⟨110,N0,rfl⟩
  | 2,_ => exact ⟨110,A0,rfl⟩
  | 3,_ => exact ⟨110,D0,rfl⟩
  | 4,_ => exact ⟨110,E0,rfl⟩
  | 5,_ => exact ⟨110,F0,rfl⟩
  | 6,_ => exact ⟨110,K0,rfl⟩
  | 7,_ => exact ⟨116,C0,rfl⟩))
 have HG2 := hid (gb_trans (gb_trans HG1.out g2) GA)
 have HL2 := hid ((HL1.out.grown g2).grown GA)
 rw [Pure.be_length] at B2
 have HC := hid (And.intro N1 (And.intro A1 (And.intro B2 (And.intro C2 (And.intro D1 (And.intro E1 (And.intro F1 K1)))))))
 have HAt := hid (And.intro B3 C3)
 have Hok := hid (And.intro C4 C5)
 have Hs1 := hid (Nat.lt_of_lt_of_le HL1.out.lt (Nat.le_refl _))
 have HBk := hid (Blk.new w2 #[.int .u8 108,.int .i64 0,.slice none 0 0,.slice (some ⟨g,0,none⟩) 8 c] 70)
 clear HS hP hP2 N0 N1 A0 A1 B0 B2 B3 C0 C2 C3 C4 C5 D0 D1 E0 E1 F0 F1 K0 K1 g2 GA HL1 HG1
 go_wp2_with fail
 refine HI.out.mono ?_
 rintro e w3 ⟨rfl,g3⟩
 obtain ⟨N1,A1,B2,C2,D1,E1,F1,K1⟩ := HC.out
 have x1 : w3.cell? ⟨g,9,none⟩ = some (.int .i64 t.flags) := g3.cell A1 (by simp)
 have x5 : w3.cell? ⟨g,5,none⟩ = some (.int .i64 nonce) := g3.cell N1 (by simp)
 have x6 : w3.cell? ⟨g,2,none⟩ = some (.slice ab 8 cb) := g3.cell B2 (by simp)
 have x10 : w3.cell? ⟨g,30,none⟩ = some (.slice ac s.name.length cc) := g3.cell C2 (by simp)
 have x13 : w3.cell? ⟨g,13,none⟩ = some (.int .i64 t.auth) := g3.cell D1 (by simp)
 have x17 : w3.cell? ⟨g,17,none⟩ = some (.int .i64 t.start) := g3.cell E1 (by simp)
 have x21 : w3.cell? ⟨g,21,none⟩ = some (.int .i64 t.fin) := g3.cell F1 (by simp)
 have x25 : w3.cell? ⟨g,25,none⟩ = some (.int .i64 t.renew) := g3.cell K1 (by simp)
 have xp : w3.cell? ⟨w2.heap.size,3,none⟩ = some (.slice (some ⟨g,0,none⟩) 8 c) := g3.cell (HBk.out.cell 3) (by simp)
 have HL3 := hid (HL2.out.grown g3)
 have HG3 := hid (gb_trans HG2.out g3)
 have hat8 : At w3 ab (Pure.be t.session 8) := HAt.out.1.below g3
 have hatc : At w3 ac s.name := HAt.out.2.below g3
 have HK := hid (kkey_any (Pure.be t.session 8) 8 ab cb (w3.drewN 1) (hid (Pure.be_length _ _)) (by decide) (hat8.below (gb_drewN (World.grownBy.refl _ _) 1)))
 rw [Pure.join_be] at HK
 have rs := fun W (h : At W ac s.name) => run_string_of (P := Tryz.prog) W 26 9 5 Tryz.underlying26 Tryz.underlying5 Tryz.underlying9 ac cc s.name h
 have HSk : Hid (∀ W,CF w3 W (fun b _ => b = w.heap.size) → (fun w' => w'.cell? ⟨g,9,none⟩ = some (.int .i64 t.flags) ∧ w'.cell? ⟨g,5,none⟩ = some (.int .i64 nonce) ∧ w'.cell? ⟨g,2,none⟩ = some (.slice ab 8 cb) ∧ w'.cell? ⟨g,30,none⟩ = some (.slice ac s.name.length cc) ∧ w'.cell? ⟨g,13,none⟩ = some (.int .i64 t.auth) ∧ w'.cell? ⟨g,17,none⟩ = some (.int .i64 t.start) ∧ w'.cell? ⟨g,21,none⟩ = some (.int .i64 t.fin) ∧ w'.cell? ⟨g,25,none⟩ = some (.int .i64 t.renew) ∧ (convert 26 9 (.slice ac s.name.length cc)).run Tryz.prog w' = .ok (.string ⟨s.name.toArray⟩) w') W) := fun W k => by
  have hg : g ≠ w.heap.size := fun e => by have := Hok.out.2.1; have := Hs1.out; omega
  refine ⟨k.cell x1 hg,k.cell x5 hg,k.cell x6 hg,k.cell x10 hg,k.cell x13 hg,k.cell x17 hg,k.cell x21 hg,k.cell x25 hg,rs W (hatc.cf k (fun b off e j _ n => ?_))⟩
  have h1 := (Hok.out.1 b off e).1
  have h2 := Hs1.out
  omega
 have r2 := rs (w3.drewN 1) (hatc.below (gb_drewN (World.grownBy.refl _ _) 1))
 obtain ⟨⟨d0,q0⟩,⟨d1,q1⟩,⟨d2,q2⟩,⟨d3,q3⟩,⟨d4,q4⟩,⟨d5,q5⟩,⟨d6,q6⟩,⟨d7,q7⟩,f0,f1,f2,f3,f4,f5,f6,f7⟩ := live_eight HL3.out
 clear N1 A1 B2 C2 D1 E1 F1 K1 HI HC HAt HL2 HG2 g3 hat8 hatc rs
 go_wp2_with fail
 go_region_held3 (fun w' => w'.cell? ⟨g,9,none⟩ = some (.int .i64 t.flags) ∧ w'.cell? ⟨g,5,none⟩ = some (.int .i64 nonce) ∧ w'.cell? ⟨g,2,none⟩ = some (.slice ab 8 cb) ∧ w'.cell? ⟨g,30,none⟩ = some (.slice ac s.name.length cc) ∧ w'.cell? ⟨g,13,none⟩ = some (.int .i64 t.auth) ∧ w'.cell? ⟨g,17,none⟩ = some (.int .i64 t.start) ∧ w'.cell? ⟨g,21,none⟩ = some (.int .i64 t.fin) ∧ w'.cell? ⟨g,25,none⟩ = some (.int .i64 t.renew) ∧ (convert 26 9 (.slice ac s.name.length cc)).run Tryz.prog w' = .ok (.string ⟨s.name.toArray⟩) w') (exact HSk.out _ (by (repeat refine CF.setCell ?_ _ _ _ (fun _ => rfl)); exact CF.of_gb (gb_drewN (World.grownBy.refl _ _) 1) _)) (first | (go_at_call 41; refine HK.out.mono ?_; rintro e w4 ⟨rfl,rfl⟩))
 go_wp2
 refine bodyPost_ret (results_celltmp Tryz.results28 _ _ _ w.heap.size rfl _ (load_of (eightSet (w3.drewN 1) w.heap.size _ _ _ _ _ _ _ _ q0 q1 q2 q3 q4 q5 q6 q7) 48 _ Tryz.underlying48 rfl Tryz.sizeKGrant)) rfl ⟨rfl,?_⟩
 repeat refine gb_store ?_ (Nat.le_refl _)
 exact gb_drewN HG3.out 1
end Go.Proofs.YtpijkgbafjccaaaGreatDoor
namespace Go.Proofs.YtpijkgbafjccaaaGreatDoor
open Go.RowKit
set_option maxRecDepth 100000
def tbPies (t : TK) (s : BE) (a : UInt64) : List Pie := [txtP s.name,numP s.number,txtP (Pure.sealL s.key 2 a t.plain)]
def pbPies (t : TK) (s : BE) (nonce number : Int) (key use b : UInt64) : List Pie := [numP number,txtP (Pure.sealL key use b (partPlain t nonce s))]
def gvPies (kind : Int) (t : TK) (s : BE) (nonce number : Int) (key use a b : UInt64) : List Pie := [numP kind,txtP t.client,lstP (tbPies t s a),lstP (pbPies t s nonce number key use b)]
theorem gv_box (kind : Int) (t : TK) (s : BE) (nonce number : Int) (key use a b : UInt64) : giveBox kind t s nonce number key use a b = Box.box 48 (catP (gvPies kind t s nonce number key use a b)) := rfl
theorem tk_len3 (t : TK) (hc : t.client.length ≤ 3) : t.plain.length ≤ 67 := by
 have n1 := num10 t.flags
 have n2 := num10 t.auth
 have n3 := num10 t.start
 have n4 := num10 t.fin
 have n5 := num10 t.renew
 have t1 : (Box.box 4 (Pure.be t.session 8)).length = 10 := by rw [box_small (by rw [Pure.be_length]; omega),Pure.be_length]
 have t2 : (Box.box 4 t.client).length = t.client.length + 2 := box_small (by omega)
 have e : (catP (tkPies t)).length ≤ 65 := by
  unfold numBox at n1 n2 n3 n4 n5
  simp only [tkPies,catP,List.map_cons,List.map_nil,List.flatten_cons,List.flatten_nil,List.length_append,List.length_nil]
  omega
 rw [tk_plain,box_small (by omega)]
 omega
theorem pt_len3 (t : TK) (nonce : Int) (s : BE) (hc : s.name.length ≤ 3) : (partPlain t nonce s).length ≤ 77 := by
 have n0 := num10 nonce
 have n1 := num10 t.flags
 have n2 := num10 t.auth
 have n3 := num10 t.start
 have n4 := num10 t.fin
 have n5 := num10 t.renew
 have t1 : (Box.box 4 (Pure.be t.session 8)).length = 10 := by rw [box_small (by rw [Pure.be_length]; omega),Pure.be_length]
 have t2 : (Box.box 4 s.name).length = s.name.length + 2 := box_small (by omega)
 have e : (catP (ptPies t nonce s.name)).length ≤ 75 := by
  unfold numBox at n0 n1 n2 n3 n4 n5
  simp only [ptPies,catP,List.map_cons,List.map_nil,List.flatten_cons,List.flatten_nil,List.length_append,List.length_nil]
  omega
 rw [pt_plain,box_small (by omega)]
 omega
theorem tb_len (t : TK) (s : BE) (a : UInt64) (hc : t.client.length ≤ 3) (hs : s.name.length ≤ 3) : (catP (tbPies t s a)).length ≤ 100 := by
 have n1 := num10 s.number
 have h1 := tk_len3 t hc
 have t1 : (Box.box 4 s.name).length = s.name.length + 2 := box_small (by omega)
 have t2 : (Box.box 4 (Pure.sealL s.key 2 a t.plain)).length = t.plain.length + 18 := by rw [box_small (by rw [Pure.sealL_length]; omega),Pure.sealL_length]
 unfold numBox at n1
 simp only [tbPies,catP,List.map_cons,List.map_nil,List.flatten_cons,List.flatten_nil,List.length_append,List.length_nil]
 omega
theorem pb_len (t : TK) (s : BE) (nonce number : Int) (key use b : UInt64) (hs : s.name.length ≤ 3) : (catP (pbPies t s nonce number key use b)).length ≤ 105 := by
 have n1 := num10 number
 have h1 := pt_len3 t nonce s hs
 have t2 : (Box.box 4 (Pure.sealL key use b (partPlain t nonce s))).length = (partPlain t nonce s).length + 18 := by rw [box_small (by rw [Pure.sealL_length]; omega),Pure.sealL_length]
 unfold numBox at n1
 simp only [pbPies,catP,List.map_cons,List.map_nil,List.flatten_cons,List.flatten_nil,List.length_append,List.length_nil]
 omega
theorem gv_len (kind : Int) (t : TK) (s : BE) (nonce number : Int) (key use a b : UInt64) (hc : t.client.length ≤ 3) (hs : s.name.length ≤ 3) : (giveBox kind t s nonce number key use a b).length ≤ 230 := by
 have n1 := num10 kind
 have t1 : (Box.box 4 t.client).length = t.client.length + 2 := box_small (by omega)
 have h1 := tb_len t s a hc hs
 have h2 := pb_len t s nonce number key use b hs
 have t2 : (Box.box 48 (catP (tbPies t s a))).length = (catP (tbPies t s a)).length + 2 := box_small (by omega)
 have t3 : (Box.box 48 (catP (pbPies t s nonce number key use b))).length = (catP (pbPies t s nonce number key use b)).length + 2 := box_small (by omega)
 have e : (catP (gvPies kind t s nonce number key use a b)).length ≤ 224 := by
  unfold numBox at n1
  have e0 : catP (gvPies kind t s nonce number key use a b) = Box.box 2 (Box.low kind (Box.size kind)) ++ (Box.box 4 t.client ++ (Box.box 48 (catP (tbPies t s a)) ++ (Box.box 48 (catP (pbPies t s nonce number key use b)) ++ []))) := rfl
  rw [e0]
  simp only [List.length_append,List.length_nil]
  omega
 rw [gv_box]
 have := box_four 48 (catP (gvPies kind t s nonce number key use a b))
 omega
theorem tb_ok (t : TK) (s : BE) (a : UInt64) (hc : t.client.length ≤ 3) (hs : s.name.length ≤ 3) (hn : In64 s.number) (d : Nat) : (∀ p ∈ tbPies t s a,p.2.length ≤ 65535) ∧ ∀ p ∈ tbPies t s a,Tells d p := by
 have h1 := tk_len3 t hc
 constructor
 ·intro p hp
  simp only [tbPies,List.mem_cons,List.not_mem_nil,or_false] at hp
  rcases hp with rfl | rfl | rfl
  ·show s.name.length ≤ _; omega
  ·exact numP_len _
  ·show (Pure.sealL _ _ _ _).length ≤ _; rw [Pure.sealL_length]; omega
 ·intro p hp
  simp only [tbPies,List.mem_cons,List.not_mem_nil,or_false] at hp
  rcases hp with rfl | rfl | rfl
  ·exact tells_txt d _
  ·exact tells_num d _ hn
  ·exact tells_txt d _
theorem pb_ok (t : TK) (s : BE) (nonce number : Int) (key use b : UInt64) (hs : s.name.length ≤ 3) (hn : In64 number) (d : Nat) : (∀ p ∈ pbPies t s nonce number key use b,p.2.length ≤ 65535) ∧ ∀ p ∈ pbPies t s nonce number key use b,Tells d p := by
 have h1 := pt_len3 t nonce s hs
 constructor
 ·intro p hp
  simp only [pbPies,List.mem_cons,List.not_mem_nil,or_false] at hp
  rcases hp with rfl | rfl
  ·exact numP_len _
  ·show (Pure.sealL _ _ _ _).length ≤ _; rw [Pure.sealL_length]; omega
 ·intro p hp
  simp only [pbPies,List.mem_cons,List.not_mem_nil,or_false] at hp
  rcases hp with rfl | rfl
  ·exact tells_num d _ hn
  ·exact tells_txt d _
theorem gv_ok (kind : Int) (t : TK) (s : BE) (nonce number : Int) (key use a b : UInt64) (hc : t.client.length ≤ 3) (hs : s.name.length ≤ 3) (hk : In64 kind) (hn : In64 s.number) (hn2 : In64 number) : (∀ p ∈ gvPies kind t s nonce number key use a b,p.2.length ≤ 65535) ∧ ∀ p ∈ gvPies kind t s nonce number key use a b,Tells 7 p := by
 have h1 := tb_len t s a hc hs
 have h2 := pb_len t s nonce number key use b hs
 constructor
 ·intro p hp
  simp only [gvPies,List.mem_cons,List.not_mem_nil,or_false] at hp
  rcases hp with rfl | rfl | rfl | rfl
  ·exact numP_len _
  ·show t.client.length ≤ _; omega
  ·show (catP _).length ≤ _; omega
  ·show (catP _).length ≤ _; omega
 ·intro p hp
  simp only [gvPies,List.mem_cons,List.not_mem_nil,or_false] at hp
  rcases hp with rfl | rfl | rfl | rfl
  ·exact tells_num 7 _ hk
  ·exact tells_txt 7 _
  ·exact tells_lst 6 _ (tb_ok t s a hc hs hn 6).2 (tb_ok t s a hc hs hn 6).1
  ·exact tells_lst 6 _ (pb_ok t s nonce number key use b hs hn2 6).2 (pb_ok t s nonce number key use b hs hn2 6).1
theorem wp_genK {P : Program} {c : Code} {Q : Exit → Act → World → Prop} {a : Act} {W : World} (X : World → Prop) (hX : X W) (h : ∀ V,X V → Code.wp P c Q a V) : Code.wp P c Q a W := h W hX
end Go.Proofs.YtpijkgbafjccaaaGreatDoor
namespace Go.Proofs.YtpijkgbafjccaaaGreatDoor
open Go.RowKit
set_option maxRecDepth 100000
theorem pNum_numP (v : Int) (h : In64 v) : pNum (numP v) = some v := by
 unfold pNum
 rw [if_pos (show (numP v).1.toNat = 2 from rfl)]
 exact Box.num_low v h.1 h.2
theorem pName_txtP (l : List UInt8) (h : isNameL l = true) : pName (txtP l) = some l := if_pos ⟨rfl,h⟩
theorem pList_lstP (ps : List Pie) (h : ∀ p ∈ ps,p.2.length ≤ 65535) : pList (lstP ps) = some ps := by
 unfold pList
 rw [if_pos (show (lstP ps).1.toNat = 48 from rfl)]
 exact catP_cuts ps h
theorem listOf_box (ps : List Pie) (h : ∀ p ∈ ps,p.2.length ≤ 65535) (hl : (catP ps).length ≤ 65535) : listOf (Box.box 48 (catP ps)) = some ps := by
 unfold listOf
 rw [cut_one (48,catP ps) hl]
 simp only
 rw [if_pos (by decide)]
 exact catP_cuts ps h
theorem name_le {l : List UInt8} (h : isNameL l = true) : l.length ≤ 16 := by
 unfold isNameL at h
 simp only [Bool.and_eq_true,decide_eq_true_eq] at h
 exact h.1.2
theorem low_le (v : Int) : (Box.low v (Box.size v)).length ≤ 65535 := by
 rw [Box.low_length]
 have := (size_bounds v).2
 omega
theorem firstReq_box (client service : List UInt8) (nonce sFrom till rtime opts : Int) : firstReq client service nonce sFrom till rtime opts = Box.box 48 (catP [numP 10,txtP client,txtP service,numP nonce,numP sFrom,numP till,numP rtime,numP opts,lstP []]) := rfl
theorem first_of (client service : List UInt8) (nonce sFrom till rtime opts : Int) (hc : isNameL client = true) (hs : isNameL service = true) (h1 : In64 nonce) (h2 : In64 sFrom) (h3 : In64 till) (h4 : In64 rtime) (h5 : In64 opts) : firstOf (firstReq client service nonce sFrom till rtime opts) = some ⟨client,service,nonce,sFrom,till,rtime,opts,none⟩ := by
 have l1 := name_le hc
 have l2 := name_le hs
 have hf := first_flat client service nonce sFrom till rtime opts (by omega) (by omega)
 have hcat : (catP [numP 10,txtP client,txtP service,numP nonce,numP sFrom,numP till,numP rtime,numP opts,lstP []]).length ≤ 120 := hf
 unfold firstOf
 rw [firstReq_box,if_pos (by have := box_four 48 (catP [numP 10,txtP client,txtP service,numP nonce,numP sFrom,numP till,numP rtime,numP opts,lstP []]); omega),listOf_box _ (by
  intro p hp
  simp only [List.mem_cons,List.not_mem_nil,or_false] at hp
  rcases hp with rfl | rfl | rfl | rfl | rfl | rfl | rfl | rfl | rfl
  ·exact low_le _
  ·show client.length ≤ _; omega
  ·show service.length ≤ _; omega
  ·exact low_le _
  ·exact low_le _
  ·exact low_le _
  ·exact low_le _
  ·exact low_le _
  ·exact (by decide : (catP []).length ≤ 65535)) (by omega)]
 have hp : preOf (lstP []) = some none := by
  unfold preOf
  rw [pList_lstP [] (by simp)]
 simp only [Option.bind_some,firstP,nextP,pNum_numP 10 ⟨by decide,by decide⟩,if_pos,pName_txtP client hc,pName_txtP service hs,pNum_numP _ h1,pNum_numP _ h2,pNum_numP _ h3,pNum_numP _ h4,pNum_numP _ h5,hp,endP]
abbrev sealedProof (t : TK) (cnt : UInt64) (at0 : Int) : List UInt8 := Pure.sealL t.session 4 cnt (proofPlain t.client at0 cnt.toNat)
abbrev nq (t : TK) (s : BE) (a cnt : UInt64) (at0 : Int) (service : List UInt8) (nonce till opts : Int) : NQ := ⟨s.name,s.number,Pure.sealL s.key 2 a t.plain,sealedProof t cnt at0,service,nonce,till,0,opts⟩
theorem ans_first (M : DM) (now : Int) (client service : List UInt8) (nonce sFrom till rtime opts : Int) (hc : isNameL client = true) (hs : isNameL service = true) (h1 : In64 nonce) (h2 : In64 sFrom) (h3 : In64 till) (h4 : In64 rtime) (h5 : In64 opts) :
  answerM M now (firstReq client service nonce sFrom till rtime opts) = finishM M now (firstM M now ⟨client,service,nonce,sFrom,till,rtime,opts,none⟩) := by
 unfold answerM
 rw [first_of client service nonce sFrom till rtime opts hc hs h1 h2 h3 h4 h5]
theorem first_grant {M : DM} {now : Int} {q : FQ} {x s : BE} (hx : BE.find M.book q.client = some x) (hs : BE.find M.book q.service = some s) (hpair : pairCode (some x) (some s) now 6 7 1 2 = 0) (hf : firstCode M.skew now q x s = 0) (hd : 24 ≤ M.draws.length) :
  finishM M now (firstM M now q) = (giveBox 11 { firstTK now q x s with session := drawAt M.draws 0 } s q.nonce x.number x.key 3 (drawAt M.draws 1) (drawAt M.draws 2),{ M with draws := M.draws.drop 24 }) := by
 have hr : firstM M now q = .ok ⟨11,firstTK now q x s,s,q.nonce,x.number,x.key,3⟩ := by
  unfold firstM
  simp only [hx,hs,hpair,hf,ne_eq,not_true_eq_false,if_false]
 rw [hr]
 unfold finishM
 simp only
 rw [if_neg (by omega)]
 rfl
abbrev nTgs : List UInt8 := [116,103,115]
abbrev nAl : List UInt8 := [97,108]
abbrev nWeb : List UInt8 := [119,101,98]
abbrev kB (nm : List UInt8) (key : UInt64) (l : Int) : BE := ⟨nm,1,key,0,l,3 * l,0,30⟩
abbrev hBook (a b c : Int) : List BE := [kB nAl 1000002 b,kB nTgs 1000001 a,kB nWeb 1000003 c]
end Go.Proofs.YtpijkgbafjccaaaGreatDoor
