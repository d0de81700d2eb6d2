/-
  
  
  
  
-/
import Derived.Test.YtbanfbpfapjfcaaGreatDoorGTQBat
namespace Go.Proofs.YtbanfbpfapjfcaaGreatDoor
open Go.RowKit
set_option maxRecDepth 100000
def KAcc (W : World) (L : List (Value × List UInt8)) : Prop := ∀ x ∈ L,KH W x.1 x.2
theorem KAcc.nil (W : World) : KAcc W [] := fun _ h => by simp at h
theorem KAcc.grown {W W' : World} {L : List (Value × List UInt8)} (h : KAcc W L) (k : W.grownBy W' none) : KAcc W' L := fun x hx => (h x hx).grown k
theorem KAcc.push {W W' : World} {L : List (Value × List UInt8)} {o : Value} {z : List UInt8} (h : KAcc W L) (k : W.grownBy W' none) (q : KH W' o z) : KAcc W' ((o,z) :: L) := by
 intro x hx
 rcases List.mem_cons.1 hx with e | e
 ·subst e; exact q
 ·exact h.grown k x e
theorem kits {W : World} : ∀ {L : List (Value × List UInt8)},(∀ x ∈ L,KH W x.1 x.2) → ∃ its : List KIt,its.length = L.length ∧ its.map (fun x => x.2.2) = L.map (fun x => x.2) ∧ (∀ j (h1 : j < its.length) (h2 : j < L.length),L[j].1 = .slice (its[j]).1 (its[j]).2.2.length (its[j]).2.1 ∧ At W (its[j]).1 (its[j]).2.2 ∧ ((its[j]).1 = none → (its[j]).2.1 = 0))
 | [],_ => ⟨[],rfl,rfl,fun j h1 => absurd h1 (by simp)⟩
 | x :: L,h => by
  obtain ⟨its,h1,h2,h3⟩ := kits (L := L) (fun y hy => h y (List.mem_cons_of_mem _ hy))
  obtain ⟨ao,cap,q1,_,_,q4,q5⟩ := h x (List.mem_cons_self ..)
  refine ⟨(ao,cap,x.2) :: its,by simp [h1],by simp [h2],fun j j1 j2 => ?_⟩
  cases j with
  | zero => exact ⟨q1,q5,q4⟩
  | succ j => exact h3 j (by simpa using j1) (by simpa using j2)
theorem KAcc.list {W : World} {L : List (Value × List UInt8)} (h : KAcc W L) (vs : Array Value) (n : Nat) (hvs : vs = (L.reverse.map fun x => x.1).toArray) (hn : L.reverse.length = n) (hml : n ≤ 1000) (hB : (L.reverse.map fun x => x.2).flatten.length ≤ 255) :
  Calls Tryz.prog 33 #[.slice (some ⟨W.heap.size,0,none⟩) n n] (W.alloc (.cells vs 32)) fun e w' => ∃ o,e = .returned o ∧ KMade W.heap.size w' o (lstBox (L.reverse.map fun x => x.2)) ∧ W.grownBy w' none := by
 obtain ⟨its,h1,h2,h3⟩ := kits (W := W) (L := L.reverse) (fun x hx => h x (List.mem_reverse.1 hx))
 have G := World.grownBy_alloc W (.cells vs 32) none
 have hcat : kcat its = (L.reverse.map fun x => x.2).flatten := by unfold kcat; rw [h2]
 have hi : KItems (W.alloc (.cells vs 32)) (some ⟨W.heap.size,0,none⟩) its := by
  intro j hj
  have hj2 : j < L.reverse.length := by omega
  obtain ⟨q1,q2,q3⟩ := h3 j hj hj2
  refine ⟨W.heap.size,rfl,?_,q2.below G,q3⟩
  rw [← q1]
  have := cells_range W vs 32 j (L.reverse[j].1) (by rw [hvs]; simp only [List.getElem?_map]; rw [List.getElem?_eq_getElem hj2]; rfl)
  simpa using this
 refine (klist_any _ n n its _ (hid (by rw [h1,hn])) hml (by rw [hcat]; exact hB) hi).mono ?_
 rintro e w' ⟨o,q1,q2,q3⟩
 rw [hcat] at q2
 exact ⟨o,q1,own_base q2 (by rw [World.size_alloc]; omega),gb_trans G q3⟩
theorem klist_nil (w : World) : Calls Tryz.prog 33 #[.slice none 0 0] w fun e w' => ∃ o,e = .returned o ∧ KMade w.heap.size w' o (lstBox []) ∧ w.grownBy w' none := by
 refine (klist_any none 0 0 [] w (hid rfl) (by omega) (by simp [kcat]) (fun j hj => absurd hj (by simp))).mono ?_
 rintro e w' ⟨o,q1,q2,q3⟩
 exact ⟨o,q1,q2,q3⟩
def firstReq (client service : List UInt8) (nonce sFrom till rtime opts : Int) : List UInt8 := lstBox [numBox 10,txtBox client,txtBox service,numBox nonce,numBox sFrom,numBox till,numBox rtime,numBox opts,lstBox []]
theorem knum_m (v : Int) (w : World) (h : In64 v) : Calls Tryz.prog 34 #[.int .i64 v] w fun e w' => ∃ o,e = .returned o ∧ KMade w.heap.size w' o (numBox v) ∧ w.grownBy w' none := knumber_any v w h.1 h.2
theorem ktext_m (zs : List UInt8) (v : Value) (w : World) (hl : zs.length ≤ 255) (h : KH w v zs) : Calls Tryz.prog 38 #[v] w fun e w' => ∃ o,e = .returned o ∧ KMade w.heap.size w' o (txtBox zs) ∧ w.grownBy w' none := by
 obtain ⟨ao,cap,rfl,_,_,h4,h5⟩ := h
 exact ktext_any zs zs.length ao cap w (hid rfl) hl (hid h4) h5
theorem box_small {tag : UInt8} {l : List UInt8} (h : l.length ≤ 127) : (Box.box tag l).length = l.length + 2 := by
 rw [Box.box_length,if_pos (by omega)]
theorem num10 (v : Int) : (numBox v).length ≤ 10 := (numBox_length v).2
theorem box_four (tag : UInt8) (l : List UInt8) : (Box.box tag l).length ≤ l.length + 4 := by
 rw [Box.box_length]
 split <;> (try split) <;> omega
theorem first_flat (client service : List UInt8) (nonce sFrom till rtime opts : Int) (hc : client.length ≤ 20) (hs : service.length ≤ 20) : ([numBox 10,txtBox client,txtBox service,numBox nonce,numBox sFrom,numBox till,numBox rtime,numBox opts,lstBox []] : List (List UInt8)).flatten.length ≤ 120 := by
 have n1 := num10 10
 have n2 := num10 nonce
 have n3 := num10 sFrom
 have n4 := num10 till
 have n5 := num10 rtime
 have n6 := num10 opts
 have t1 : (txtBox client).length = client.length + 2 := box_small (by omega)
 have t2 : (txtBox service).length = service.length + 2 := box_small (by omega)
 have t3 : (lstBox []).length = 2 := rfl
 simp only [List.flatten_cons,List.flatten_nil,List.length_append,List.length_nil]
 omega
set_option maxHeartbeats 2000000 in
theorem kfirst_any (client service : List UInt8) (nonce sFrom till rtime opts : Int) (w : World) (hc : client.length ≤ 20) (hs : service.length ≤ 20) (h1 : In64 nonce) (h2 : In64 sFrom) (h3 : In64 till) (h4 : In64 rtime) (h5 : In64 opts) :
  Calls Tryz.prog 18 #[.string ⟨client.toArray⟩,.string ⟨service.toArray⟩,.int .i64 nonce,.int .i64 sFrom,.int .i64 till,.int .i64 rtime,.int .i64 opts] w fun e w' => ∃ o,e = .returned o ∧ KMade w.heap.size w' o (firstReq client service nonce sFrom till rtime opts) ∧ w.grownBy w' none := by
 have HFl := hid (first_flat client service nonce sFrom till rtime opts hc hs)
 go_enter Tryz.func18,Tryz.ntmps18
 go_wp2_with fail
 refine (knum_m 10 _ ⟨by decide,by decide⟩).mono ?_
 rintro e w1 ⟨o1,rfl,q1,g1⟩
 obtain ⟨a1,c1,hv1⟩ := q1.has.shape
 subst hv1
 have A1 := hid (KAcc.nil _ |>.push g1 q1.has)
 have G1 := hid (g1)
 clear q1 g1
 go_wp2_with fail
 refine (kname_any client _ (by omega)).mono ?_
 rintro e w2 ⟨o2,rfl,q2,g2⟩
 obtain ⟨a2,c2,hv2⟩ := q2.has.shape
 subst hv2
 have A2 := hid (A1.out |>.push g2 q2.has)
 have G2 := hid (gb_trans G1.out g2)
 clear q2 g2 A1 G1
 go_wp2_with fail
 refine (kname_any service _ (by omega)).mono ?_
 rintro e w3 ⟨o3,rfl,q3,g3⟩
 obtain ⟨a3,c3,hv3⟩ := q3.has.shape
 subst hv3
 have A3 := hid (A2.out |>.push g3 q3.has)
 have G3 := hid (gb_trans G2.out g3)
 clear q3 g3 A2 G2
 go_wp2_with fail
 refine (knum_m nonce _ h1).mono ?_
 rintro e w4 ⟨o4,rfl,q4,g4⟩
 obtain ⟨a4,c4,hv4⟩ := q4.has.shape
 subst hv4
 have A4 := hid (A3.out |>.push g4 q4.has)
 have G4 := hid (gb_trans G3.out g4)
 clear q4 g4 A3 G3
 go_wp2_with fail
 refine (knum_m sFrom _ h2).mono ?_
 rintro e w5 ⟨o5,rfl,q5,g5⟩
 obtain ⟨a5,c5,hv5⟩ := q5.has.shape
 subst hv5
 have A5 := hid (A4.out |>.push g5 q5.has)
 have G5 := hid (gb_trans G4.out g5)
 clear q5 g5 A4 G4
 go_wp2_with fail
 refine (knum_m till _ h3).mono ?_
 rintro e w6 ⟨o6,rfl,q6,g6⟩
 obtain ⟨a6,c6,hv6⟩ := q6.has.shape
 subst hv6
 have A6 := hid (A5.out |>.push g6 q6.has)
 have G6 := hid (gb_trans G5.out g6)
 clear q6 g6 A5 G5
 go_wp2_with fail
 refine (knum_m rtime _ h4).mono ?_
 rintro e w7 ⟨o7,rfl,q7,g7⟩
 obtain ⟨a7,c7,hv7⟩ := q7.has.shape
 subst hv7
 have A7 := hid (A6.out |>.push g7 q7.has)
 have G7 := hid (gb_trans G6.out g7)
 clear q7 g7 A6 G6
 go_wp2_with fail
 refine (knum_m opts _ h5).mono ?_
 rintro e w8 ⟨o8,rfl,q8,g8⟩
 obtain ⟨a8,c8,hv8⟩ := q8.has.shape
 subst hv8
 have A8 := hid (A7.out |>.push g8 q8.has)
 have G8 := hid (gb_trans G7.out g8)
 clear q8 g8 A7 G7
 go_wp2_with fail
 refine (klist_nil _).mono ?_
 rintro e w9 ⟨o9,rfl,q9,g9⟩
 obtain ⟨a9,c9,hv9⟩ := q9.has.shape
 subst hv9
 have A9 := hid (A8.out |>.push g9 q9.has)
 have G9 := hid (gb_trans G8.out g9)
 clear q9 g9 A8 G8
 go_wp2_with fail
 refine (A9.out.list _ 9 rfl rfl (by decide) (Nat.le_trans HFl.out (by decide))).mono ?_
 rintro e w10 ⟨o10,rfl,q10,g10⟩
 have HR := hid (And.intro (own_base q10 G9.out.size) (gb_trans G9.out g10))
 clear q10 g10
 go_wp2
 go_ret
 exact ⟨_,rfl,HR.out.1,HR.out.2⟩
def nextReq (ticket proof : List UInt8) (service : List UInt8) (nonce till opts : Int) : List UInt8 := lstBox [numBox 12,ticket,txtBox proof,txtBox service,numBox nonce,numBox till,numBox 0,numBox opts]
def proofPlain (client : List UInt8) (at0 count : Int) : List UInt8 := lstBox [txtBox client,numBox at0,numBox count]
theorem proof_flat (client : List UInt8) (at0 count : Int) (hc : client.length ≤ 20) : ([txtBox client,numBox at0,numBox count] : List (List UInt8)).flatten.length ≤ 42 := by
 have n2 := num10 at0
 have n3 := num10 count
 have t1 : (txtBox client).length = client.length + 2 := box_small (by omega)
 simp only [List.flatten_cons,List.flatten_nil,List.length_append,List.length_nil]
 omega
theorem KH.buf {w : World} {g n : Nat} {z : List UInt8} (h : Buf w g n z) (hn : z.length = n) : KH w (.slice (some ⟨g,0,none⟩) n n) z := by
 obtain ⟨cur,e,h1,h2,h3,h4,h5⟩ := h
 refine ⟨some ⟨g,0,none⟩,n,by rw [hn],by omega,by unfold maxLen at h3; exact h3,(fun q => by cases q),At.some fun j hj => ?_⟩
 have h6 : cur.toList[j]? = some (U8 z[j]) := by
  have := congrArg (fun l => l[j]?) h5
  simp only [List.getElem?_take,List.getElem?_map] at this
  rw [if_pos hj,List.getElem?_eq_getElem hj] at this
  exact this
 rw [Nat.zero_add,cell_of_row _ _ j _ e _ h1,← Array.getElem?_toList,h6]
 rfl
theorem next_flat (ticket proof service : List UInt8) (nonce till opts : Int) (ht : ticket.length ≤ 115) (hp : proof.length ≤ 62) (hs : service.length ≤ 20) : ([numBox 12,ticket,txtBox proof,txtBox service,numBox nonce,numBox till,numBox 0,numBox opts] : List (List UInt8)).flatten.length ≤ 255 := by
 have n1 := num10 12
 have n2 := num10 nonce
 have n3 := num10 till
 have n4 := num10 0
 have n5 := num10 opts
 have t1 : (txtBox proof).length = proof.length + 2 := box_small (by omega)
 have t2 : (txtBox service).length = service.length + 2 := box_small (by omega)
 simp only [List.flatten_cons,List.flatten_nil,List.length_append,List.length_nil]
 omega
set_option maxHeartbeats 4000000 in
theorem knext_any (ticket : List UInt8) (vT : Value) (session : UInt64) (client : List UInt8) (at0 : Int) (cnt : UInt64) (service : List UInt8) (nonce till opts : Int) (w : World) (hT : KH w vT ticket) (ht : ticket.length ≤ 115) (hc : client.length ≤ 20) (hs : service.length ≤ 20) (h1 : In64 at0) (hcn : cnt.toNat ≤ 9223372036854775807) (h3 : In64 nonce) (h4 : In64 till) (h5 : In64 opts) :
  Calls Tryz.prog 21 #[vT,.int .u64 (session.toNat : Int),.string ⟨client.toArray⟩,.int .i64 at0,.int .i64 (cnt.toNat : Int),.string ⟨service.toArray⟩,.int .i64 nonce,.int .i64 till,.int .i64 opts] w fun e w' => ∃ o,e = .returned (.tuple #[o,.bool true]) ∧ KMade w.heap.size w' o (nextReq ticket (Pure.sealL session 4 cnt (proofPlain client at0 cnt.toNat)) service nonce till opts) ∧ w.grownBy w' none := by
 have h2 : In64 (cnt.toNat : Int) := ⟨by omega,by omega⟩
 have hcn2 : (cnt.toNat : Int) ≤ 9223372036854775807 := by omega
 have hcn0 : (0 : Int) ≤ (cnt.toNat : Int) := by omega
 have HFl := hid (proof_flat client at0 cnt.toNat hc)
 obtain ⟨aT,cT,hvT⟩ := hT.shape
 subst hvT
 have HT : Hid (∀ W,w.grownBy W none → KH W (.slice aT ticket.length cT) ticket) := fun W k => hT.grown k
 clear hT
 go_enter Tryz.func21,Tryz.ntmps21
 go_wp2_with fail
 refine (kname_any client _ (by omega)).mono ?_
 rintro e w1 ⟨o1,rfl,q1,g1⟩
 obtain ⟨a1,c1,hv1⟩ := q1.has.shape
 subst hv1
 have A1 := hid (KAcc.nil _ |>.push g1 q1.has)
 have G1 := hid (g1)
 clear q1 g1
 go_wp2_with fail
 refine (knum_m at0 _ h1).mono ?_
 rintro e w2 ⟨o2,rfl,q2,g2⟩
 obtain ⟨a2,c2,hv2⟩ := q2.has.shape
 subst hv2
 have A2 := hid (A1.out |>.push g2 q2.has)
 have G2 := hid (gb_trans G1.out g2)
 clear q2 g2 A1 G1
 go_wp2_with fail
 refine (knum_m (cnt.toNat : Int) _ h2).mono ?_
 rintro e w3 ⟨o3,rfl,q3,g3⟩
 obtain ⟨a3,c3,hv3⟩ := q3.has.shape
 subst hv3
 have A3 := hid (A2.out |>.push g3 q3.has)
 have G3 := hid (gb_trans G2.out g3)
 clear q3 g3 A2 G2
 go_wp2_with fail
 refine (A3.out.list _ 3 rfl rfl (by decide) (Nat.le_trans HFl.out (by decide))).mono ?_
 rintro e w4 ⟨o4,rfl,q4,g4⟩
 obtain ⟨a4,c4,hvp,hp1,hp2,hp3,hp4⟩ := q4.has
 subst hvp
 have G4 := hid (gb_trans G3.out g4)
 have HPl : Hid ((proofPlain client at0 cnt.toNat).length ≤ 46) := by
  show _ ≤ _
  have h := box_four 48 ([txtBox client,numBox at0,numBox cnt.toNat] : List (List UInt8)).flatten
  have h' := HFl.out
  show (Box.box 48 _).length ≤ 46
  omega
 obtain ⟨m,hm⟩ : ∃ m,(proofPlain client at0 cnt.toNat).length = m := ⟨_,rfl⟩
 have HS := hid (wseal_ok session 4 cnt 4 a4 (proofPlain client at0 cnt.toNat) m c4 w4 rfl (hid rfl) (hid hm) (by have := HPl.out; omega) hp4)
 have hm' : (lstBox ([((Value.slice a3 (numBox (cnt.toNat : Int)).length c3),numBox (cnt.toNat : Int)),(Value.slice a2 (numBox at0).length c2,numBox at0),(Value.slice a1 (txtBox client).length c1,txtBox client)].reverse.map fun x => x.2)).length = m := hm
 clear q4 g4 A3 G3 hp1 hp2 hp3 hp4
 rw [hm']
 clear hm'
 have HMm := hid hm
 clear hm
 go_wp2_with fail
 refine HS.out.mono ?_
 rintro e w5 ⟨gs,rfl,hgs,hbuf,g5⟩
 have hlen : (Pure.sealL session 4 cnt (proofPlain client at0 cnt.toNat)).length = m + 16 := by rw [Pure.sealL_length,HMm.out]
 have HSl : Hid ((Pure.sealL session 4 cnt (proofPlain client at0 cnt.toNat)).length ≤ 62) := by show _ ≤ _; have := HPl.out; have := HMm.out; omega
 have HP5 := hid (KH.buf hbuf hlen)
 have G5 := hid (gb_trans G4.out g5)
 have HFl2 := hid (next_flat ticket _ service nonce till opts ht HSl.out hs)
 clear HS hbuf g5 G4 hlen hgs
 go_wp2_with fail
 refine (knum_m 12 _ ⟨by decide,by decide⟩).mono ?_
 rintro e w6 ⟨o6,rfl,q6,g6⟩
 obtain ⟨a6,c6,hv6⟩ := q6.has.shape
 subst hv6
 have A6 := hid (KAcc.nil _ |>.push g6 q6.has)
 have G6 := hid (gb_trans G5.out g6)
 have HP6 := hid (HP5.out.grown g6)
 clear q6 g6 G5
 have A7 := hid (A6.out.push (World.grownBy.refl _ none) (HT.out _ G6.out))
 have G7 := hid G6.out
 clear A6 G6
 go_wp2_with fail
 refine (ktext_m _ _ _ (by have := HSl.out; omega) HP6.out).mono ?_
 rintro e w8 ⟨o8,rfl,q8,g8⟩
 obtain ⟨a8,c8,hv8⟩ := q8.has.shape
 subst hv8
 have A8 := hid (A7.out |>.push g8 q8.has)
 have G8 := hid (gb_trans G7.out g8)
 clear q8 g8 A7 G7
 go_wp2_with fail
 refine (kname_any service _ (by omega)).mono ?_
 rintro e w9 ⟨o9,rfl,q9,g9⟩
 obtain ⟨a9,c9,hv9⟩ := q9.has.shape
 subst hv9
 have A9 := hid (A8.out |>.push g9 q9.has)
 have G9 := hid (gb_trans G8.out g9)
 clear q9 g9 A8 G8
 go_wp2_with fail
 refine (knum_m nonce _ h3).mono ?_
 rintro e w10 ⟨o10,rfl,q10,g10⟩
 obtain ⟨a10,c10,hv10⟩ := q10.has.shape
 subst hv10
 have A10 := hid (A9.out |>.push g10 q10.has)
 have G10 := hid (gb_trans G9.out g10)
 clear q10 g10 A9 G9
 go_wp2_with fail
 refine (knum_m till _ h4).mono ?_
 rintro e w11 ⟨o11,rfl,q11,g11⟩
 obtain ⟨a11,c11,hv11⟩ := q11.has.shape
 subst hv11
 have A11 := hid (A10.out |>.push g11 q11.has)
 have G11 := hid (gb_trans G10.out g11)
 clear q11 g11 A10 G10
 go_wp2_with fail
 refine (knum_m 0 _ ⟨by decide,by decide⟩).mono ?_
 rintro e w12 ⟨o12,rfl,q12,g12⟩
 obtain ⟨a12,c12,hv12⟩ := q12.has.shape
 subst hv12
 have A12 := hid (A11.out |>.push g12 q12.has)
 have G12 := hid (gb_trans G11.out g12)
 clear q12 g12 A11 G11
 go_wp2_with fail
 refine (knum_m opts _ h5).mono ?_
 rintro e w13 ⟨o13,rfl,q13,g13⟩
 obtain ⟨a13,c13,hv13⟩ := q13.has.shape
 subst hv13
 have A13 := hid (A12.out |>.push g13 q13.has)
 have G13 := hid (gb_trans G12.out g13)
 clear q13 g13 A12 G12
 go_wp2_with fail
 refine (A13.out.list _ 8 rfl rfl (by decide) HFl2.out).mono ?_
 rintro e w14 ⟨o14,rfl,q14,g14⟩
 obtain ⟨a14,c14,hv14⟩ := q14.has.shape
 subst hv14
 have HR := hid (And.intro (own_base q14 G13.out.size) (gb_trans G13.out g14))
 clear q14 g14
 go_wp2
 go_ret2
 exact ⟨_,rfl,HR.out.1,HR.out.2⟩
end Go.Proofs.YtbanfbpfapjfcaaGreatDoor
namespace Go.Proofs.YtbanfbpfapjfcaaGreatDoor
open Go.RowKit
set_option maxRecDepth 100000
abbrev numP (v : Int) : Pie := (2,Box.low v (Box.size v))
abbrev txtP (l : List UInt8) : Pie := (4,l)
def catP (ps : List Pie) : List UInt8 := (ps.map fun p => Box.box p.1 p.2).flatten
abbrev lstP (ps : List Pie) : Pie := (48,catP ps)
theorem catP_cons (p : Pie) (ps : List Pie) : catP (p :: ps) = Box.box p.1 p.2 ++ catP ps := rfl
theorem catP_cuts : ∀ (ps : List Pie),(∀ p ∈ ps,p.2.length ≤ 65535) → Box.cutsL (catP ps) = some ps
 | [],_ => rfl
 | p :: ps,h => by
  rw [catP_cons,Box.cutsL_box _ _ _ (h p (List.mem_cons_self ..)),catP_cuts ps (fun q hq => h q (List.mem_cons_of_mem _ hq))]
  rfl
theorem cut_one (p : Pie) (h : p.2.length ≤ 65535) : Box.cut (Box.box p.1 p.2) = some (p.1,p.2,[]) := by
 have := Box.cut_box p.1 p.2 [] h
 rwa [List.append_nil] at this
def Tells (d : Nat) (p : Pie) : Prop := ∃ t,Box.pshow d p.1 p.2 = some t
theorem tells_num (d : Nat) (v : Int) (h : In64 v) : Tells d (numP v) := by
 refine ⟨Lib.itoa v,?_⟩
 rw [Box.pshow_leaf d 2 _ (by decide),Box.leaf,if_pos (by decide),Box.num_low v h.1 h.2]
 rfl
theorem tells_txt (d : Nat) (l : List UInt8) : Tells d (txtP l) := by
 refine ⟨34 :: Box.hex l ++ [34],?_⟩
 rw [Box.pshow_leaf d 4 _ (by decide),Box.leaf,if_neg (by decide),if_pos (by decide)]
theorem tells_all (d : Nat) : ∀ (ps : List Pie),(∀ p ∈ ps,Tells d p) → ∃ ts,Box.tells d ps = some ts
 | [],_ => ⟨[],rfl⟩
 | p :: ps,h => by
  obtain ⟨t,ht⟩ := h p (List.mem_cons_self ..)
  obtain ⟨ts,hts⟩ := tells_all d ps (fun q hq => h q (List.mem_cons_of_mem _ hq))
  exact ⟨t :: ts,by simp only [Box.tells,ht,hts,Option.map_some]⟩
theorem tells_lst (d : Nat) (ps : List Pie) (h : ∀ p ∈ ps,Tells d p) (hl : ∀ p ∈ ps,p.2.length ≤ 65535) : Tells (d + 1) (lstP ps) := by
 obtain ⟨ts,hts⟩ := tells_all d ps h
 unfold Tells
 rw [Box.pshow_list d 48 _ (by decide)]
 simp only [catP_cuts ps hl,hts]
 exact ⟨_,rfl⟩
theorem leaf_text2 {w : World} {ok : Nat → Prop} {bs : List UInt8} {cs : List Value} {d : Nat} (h : PartIs d w ok 4 bs cs) : ∃ a c,cs = [.int .u8 116,.int .i64 0,.slice a bs.length c,.slice none 0 0] ∧ At w a bs ∧ (∀ b off,a = some ⟨b,off,none⟩ → ok b) ∧ CapOk a bs.length c := by
 have hl : LeafIs w ok 4 bs cs := by
  cases d with
  | zero => exact h
  | succ d =>
   rcases h with h | ⟨h,_⟩
   ·exact h
   ·exact absurd h (by decide)
 rcases hl with ⟨h,_⟩ | ⟨_,a,c,h1,h2,h3,h4⟩
 ·exact absurd h (by decide)
 ·exact ⟨a,c,h1,h2,h3,h4⟩
def PartsAt (d : Nat) (w : World) (ok : Nat → Prop) (g : Nat) (ps : List Pie) : Prop :=
 ∀ k (hk : k < ps.length),∃ cs : List Value,cs.length = 4 ∧ PartIs d w ok ps[k].1 ps[k].2 cs ∧ ok g ∧ ∀ j,j < 4 → w.cell? ⟨g,k * 4 + j,none⟩ = cs[j]?
theorem PartsAt.keep {d : Nat} {w w' : World} {ok : Nat → Prop} {g : Nat} {ps : List Pie} (h : PartsAt d w ok g ps) (k : ∀ b,ok b → w'.heap[b]? = w.heap[b]?) : PartsAt d w' ok g ps := by
 intro i hi
 obtain ⟨cs,h1,h2,h3,h4⟩ := h i hi
 exact ⟨cs,h1,h2.keep k (fun _ h => h),h3,fun j hj => by rw [cell_kept (k g h3)]; exact h4 j hj⟩
theorem PartsAt.ok {d : Nat} {w : World} {ok : Nat → Prop} {g : Nat} {ps : List Pie} (h : PartsAt d w ok g ps) (hne : ps ≠ []) : ok g := by
 obtain ⟨cs,_,_,h3,_⟩ := h 0 (List.length_pos_iff.2 hne)
 exact h3
theorem PartsAt.num {d : Nat} {w : World} {ok : Nat → Prop} {g : Nat} {ps : List Pie} (h : PartsAt d w ok g ps) (k : Nat) (v : Int) (hp : ps[k]? = some (numP v)) (hv : In64 v) : w.cell? ⟨g,k * 4,none⟩ = some (.int .u8 110) ∧ w.cell? ⟨g,k * 4 + 1,none⟩ = some (.int .i64 v) := by
 obtain ⟨hk,he⟩ := List.getElem?_eq_some_iff.1 hp
 obtain ⟨cs,h1,h2,h3,h4⟩ := h k hk
 rw [he] at h2
 have := leaf_num (v := v) ⟨hv.1,hv.2⟩ h2
 subst this
 exact ⟨h4 0 (by decide),h4 1 (by decide)⟩
theorem PartsAt.txt3 {d : Nat} {w : World} {ok : Nat → Prop} {g : Nat} {ps : List Pie} (h : PartsAt d w ok g ps) (k : Nat) (l : List UInt8) (hp : ps[k]? = some (txtP l)) : w.cell? ⟨g,k * 4,none⟩ = some (.int .u8 116) ∧ ∃ a c,w.cell? ⟨g,k * 4 + 2,none⟩ = some (.slice a l.length c) ∧ At w a l ∧ (∀ b off,a = some ⟨b,off,none⟩ → ok b) ∧ CapOk a l.length c := by
 obtain ⟨hk,he⟩ := List.getElem?_eq_some_iff.1 hp
 obtain ⟨cs,h1,h2,h3,h4⟩ := h k hk
 rw [he] at h2
 obtain ⟨a,c,rfl,hat,hok⟩ := leaf_text2 h2
 exact ⟨h4 0 (by decide),a,c,h4 2 (by decide),hat,hok⟩
theorem PartsAt.txt {d : Nat} {w : World} {ok : Nat → Prop} {g : Nat} {ps : List Pie} (h : PartsAt d w ok g ps) (k : Nat) (l : List UInt8) (hp : ps[k]? = some (txtP l)) : w.cell? ⟨g,k * 4,none⟩ = some (.int .u8 116) ∧ ∃ a c,w.cell? ⟨g,k * 4 + 2,none⟩ = some (.slice a l.length c) ∧ At w a l ∧ ∀ b off,a = some ⟨b,off,none⟩ → ok b := by
 obtain ⟨q0,a,c,q1,q2,q3,_⟩ := h.txt3 k l hp
 exact ⟨q0,a,c,q1,q2,q3⟩
theorem PartsAt.lst {d : Nat} {w : World} {ok : Nat → Prop} {g : Nat} {ps : List Pie} (h : PartsAt (d + 1) w ok g ps) (k : Nat) (qs : List Pie) (hp : ps[k]? = some (lstP qs)) (hq : ∀ p ∈ qs,p.2.length ≤ 65535) (hne : qs ≠ []) : ∃ g' c,w.cell? ⟨g,k * 4,none⟩ = some (.int .u8 108) ∧ w.cell? ⟨g,k * 4 + 1,none⟩ = some (.int .i64 0) ∧ w.cell? ⟨g,k * 4 + 2,none⟩ = some (.slice none 0 0) ∧ w.cell? ⟨g,k * 4 + 3,none⟩ = some (.slice (some ⟨g',0,none⟩) qs.length c) ∧ PartsAt d w ok g' qs := by
 obtain ⟨hk,he⟩ := List.getElem?_eq_some_iff.1 hp
 obtain ⟨cs,h1,h2,h3,h4⟩ := h k hk
 rw [he] at h2
 obtain ⟨qs',a,c,css,e1,rfl,e3,e4⟩ := leaf_list h2
 rw [catP_cuts qs hq] at e1
 injection e1 with e1
 subst e1
 have h0 : 0 < qs.length := List.length_pos_iff.2 hne
 obtain ⟨_,_,g',ha,_,_⟩ := e4 0 h0 (by omega)
 refine ⟨g',c,h4 0 (by decide),h4 1 (by decide),h4 2 (by decide),by rw [← ha]; exact h4 3 (by decide),fun i hi => ?_⟩
 obtain ⟨f1,f2,g2,f3,f4,f5⟩ := e4 i hi (by omega)
 rw [ha] at f3
 injection f3 with f3
 injection f3 with f3
 subst f3
 exact ⟨css[i]'(by omega),f1,f2,f4,f5⟩
theorem kshown_list (ps : List Pie) (v : Value) (w : World) (hne : ps ≠ []) (hl : ∀ p ∈ ps,p.2.length ≤ 65535) (ht : ∀ p ∈ ps,Tells 7 p) (h300 : (Box.box 48 (catP ps)).length ≤ 300) (hv : KH w v (Box.box 48 (catP ps))) (htab : TabHere w) :
  Calls Tryz.prog 36 #[v] w fun e w' => ∃ g c,e = .returned (.agg #[.int .u8 108,.int .i64 0,.slice none 0 0,.slice (some ⟨g,0,none⟩) ps.length c]) ∧ PartsAt 7 w' (fun b => w.heap.size ≤ b ∧ b < w'.heap.size) g ps ∧ w.grownBy w' none := by
 obtain ⟨ao,cap,rfl,h2,h3,h4,h5⟩ := hv
 obtain ⟨t,ht'⟩ := tells_lst 7 ps ht hl
 have hc : (catP ps).length ≤ 300 := Nat.le_trans (by rw [Box.box_length]; omega) h300
 refine (kshown_any 48 (catP ps) t _ _ ao cap w (hid rfl) h300 h2 h3 h5 (hid (cut_one (lstP ps) (by show (catP ps).length ≤ _; omega))) (hid ht') hc htab).mono ?_
 rintro e w' ⟨kk,vv,a2,n2,c2,a3,n3,c3,rfl,hP,hg⟩
 obtain ⟨qs',a,c,css,e1,e2,e3,e4⟩ := leaf_list hP
 rw [catP_cuts ps hl] at e1
 injection e1 with e1
 subst e1
 simp only [partCells,List.cons.injEq,and_true] at e2
 obtain ⟨q1,q2,q3,q4⟩ := e2
 have h0 : 0 < ps.length := List.length_pos_iff.2 hne
 obtain ⟨_,_,g',ha,_,_⟩ := e4 0 h0 (by omega)
 refine ⟨g',c,by rw [q1,q2,q3,q4,ha],fun i hi => ?_,hg⟩
 obtain ⟨f1,f2,g2,f3,f4,f5⟩ := e4 i hi (by omega)
 rw [ha] at f3
 injection f3 with f3
 injection f3 with f3
 subst f3
 exact ⟨css[i]'(by omega),f1,f2,f4,f5⟩
end Go.Proofs.YtbanfbpfapjfcaaGreatDoor
namespace Go.Proofs.YtbanfbpfapjfcaaGreatDoor
open Go.RowKit
set_option maxRecDepth 100000
set_option maxHeartbeats 1000000 in
theorem kkey_any (l : List UInt8) (n : Nat) (ao : Option Addr) (cap : Nat) (w : World) (hn : Hid (l.length = n)) (hl : n ≤ 1000) (hat : At w ao l) :
  Calls Tryz.prog 20 #[.slice ao n cap] w fun e w' => e = .returned (.int .u64 ((Pure.joinL 0 l).toNat : Int)) ∧ w = w' := by
 have HA := hid hat
 clear hat
 go_enter Tryz.func20,Tryz.ntmps20
 go_wp2
 go_loopw [3,4] (fun v i wr => ∃ k : Nat,k ≤ n ∧ i = .int .i64 k ∧ v = .int .u64 ((Pure.joinL 0 (l.take k)).toNat : Int) ∧ w = wr) (fun _ i _ => n - (intOf i).toNat)
 case atStart => exact ⟨0,Nat.zero_le _,rfl,rfl,rfl⟩
 case round =>
  obtain ⟨k,hk,rfl,rfl,rfl⟩ := hrel
  by_cases hlt : k < n
  ·have hlt' : k < l.length := by rw [hn.out]; exact hlt
   have hkI : (k : Int) < (n : Int) := by omega
   have hk0 : (0 : Int) ≤ (k : Int) := by omega
   obtain ⟨b,off,rfl,hc⟩ := HA.out k hlt'
   obtain ⟨x,hx⟩ : ∃ x,Pure.joinL 0 (l.take k) = x := ⟨_,rfl⟩
   obtain ⟨z,hz⟩ : ∃ z,l[k] = z := ⟨_,rfl⟩
   rw [hz] at hc
   rw [hx]
   have hzb : z.toNat < 256 := z.toNat_lt
   have hxb : x.toNat < 18446744073709551616 := x.toNat_lt
   have HX := hid (And.intro hx hz)
   clear hx hz
   go_wp2
   go_roundw
   case rel =>
    refine ⟨k + 1,by omega,by go_num,?_,by first | rfl | trivial⟩
    rw [List.take_succ_eq_append_getElem hlt',Pure.joinL_snoc,HX.out.1,HX.out.2,Pure.join1_toNat]
    congr 1
    rw [IntKind.wrap_u64,IntKind.wrap_u64]
    omega
   case measure => simp [intOf]; omega
  ·have hkm : k = n := by omega
   subst hkm
   have hkI : ¬ (k : Int) < (k : Int) := by omega
   go_wp2
   go_ret
   refine ⟨?_,rfl⟩
   rw [List.take_of_length_le (by rw [hn.out]; omega)]
   rfl
theorem numP_len (v : Int) : (numP v).2.length ≤ 65535 := by
 show (Box.low _ _).length ≤ _
 rw [Box.low_length]
 have := size_bounds v
 omega
theorem kis_list (ps : List Pie) (g c : Nat) (K : ByteArray) (w : World) (hK : K.size = ps.length) (hm : ps.length ≤ 100) (hk : ∀ k (h : k < K.size),k < ps.length → ∃ z : UInt8,w.cell? ⟨g,k * 4,none⟩ = some (.int .u8 (z.toNat : Int)) ∧ K[k]'h = z) :
  Calls Tryz.prog 37 #[.agg #[.int .u8 108,.int .i64 0,.slice none 0 0,.slice (some ⟨g,0,none⟩) ps.length c],.string K] w fun e w' => e = .returned (.bool true) ∧ w.grownBy w' none :=
 kis_any 0 none 0 0 g ps.length c K w hK hm (fun k hk' => by
  obtain ⟨z,h1,h2⟩ := hk k (by omega) hk'
  exact ⟨z,h1,fun h => h2⟩)
set_option maxHeartbeats 2000000 in
theorem kcode_any (now code : Int) (v : Value) (w : World) (h1 : In64 now) (h2 : In64 code) (hv : KH w v (refusalBox now code)) (htab : TabHere w) :
  Calls Tryz.prog 24 #[v,.int .i64 now] w fun e w' => e = .returned (.int .i64 code) ∧ w.grownBy w' none := by
 have hlen : (Box.box 48 (catP [numP 30,numP now,numP code])).length ≤ 300 := by
  have n1 := num10 30
  have n2 := num10 now
  have n3 := num10 code
  have h := box_four 48 (catP [numP 30,numP now,numP code])
  have e : (catP [numP 30,numP now,numP code]).length = (numBox 30).length + (numBox now).length + (numBox code).length := by
   simp only [catP,List.map_cons,List.map_nil,List.flatten_cons,List.flatten_nil,List.length_append,List.length_nil,numBox]
   omega
  omega
 have HS := hid (kshown_list [numP 30,numP now,numP code] v w (by simp) (fun p hp => by
   simp only [List.mem_cons,List.not_mem_nil,or_false] at hp
   rcases hp with rfl | rfl | rfl <;> exact numP_len _) (fun p hp => by
   simp only [List.mem_cons,List.not_mem_nil,or_false] at hp
   rcases hp with rfl | rfl | rfl
   ·exact tells_num 7 30 ⟨by decide,by decide⟩
   ·exact tells_num 7 now h1
   ·exact tells_num 7 code h2) hlen hv htab)
 obtain ⟨ao,cap,hvs⟩ := hv.shape
 obtain ⟨n,hn⟩ : ∃ n,(refusalBox now code).length = n := ⟨_,rfl⟩
 rw [hn] at hvs
 subst hvs
 have H12 := hid (And.intro h1 h2)
 clear hlen hv htab h1 h2 hn
 go_enter Tryz.func24,Tryz.ntmps24
 go_wp2_with fail
 refine HS.out.mono ?_
 rintro e w1 ⟨g,c,rfl,hP,g1⟩
 have GA := World.grownBy_alloc w1 (.cells #[.int .u8 108,.int .i64 0,.slice none 0 0,.slice (some ⟨g,0,none⟩) 3 c] 99) none
 have hP2 := hP.keep (fun b hb => GA.block b hb.2 (by simp))
 obtain ⟨a0,a1⟩ := hP2.num 0 30 rfl ⟨by decide,by decide⟩
 obtain ⟨b0,b1⟩ := hP2.num 1 now rfl H12.out.1
 obtain ⟨c0,c1⟩ := hP2.num 2 code rfl H12.out.2
 have HI := hid (kis_list [numP 30,numP now,numP code] g c ⟨#[110,110,110]⟩ _ rfl (by show 3 ≤ 100; omega) (fun k h h' => by
  match k,h' with
  | 0,_ => exact ⟨110,a0,rfl⟩
  | 1,_ => exact ⟨110,b0,rfl⟩
  | 2,_ => exact ⟨110,c0,rfl⟩))
 have HG := hid (gb_trans g1 GA)
 have HC := hid (And.intro a1 (And.intro b1 c1))
 have HBk := hid (Blk.new w1 #[.int .u8 108,.int .i64 0,.slice none 0 0,.slice (some ⟨g,0,none⟩) 3 c] 99)
 clear HS hP hP2 a0 a1 b0 b1 c0 c1 g1 GA
 go_wp2_with fail
 refine HI.out.mono ?_
 rintro e w2 ⟨rfl,g2⟩
 obtain ⟨a1,b1,c1⟩ := HC.out
 have x1 := g2.cell a1 (by simp)
 have x2 := g2.cell b1 (by simp)
 have x3 := g2.cell c1 (by simp)
 have x4 : w2.cell? ⟨w1.heap.size,3,none⟩ = some (.slice (some ⟨g,0,none⟩) 3 c) := g2.cell (HBk.out.cell 3) (by simp)
 have HG2 := hid (gb_trans HG.out g2)
 clear a1 b1 c1 g2 HI HC HG
 go_wp2
 go_ret
 exact ⟨rfl,HG2.out⟩
end Go.Proofs.YtbanfbpfapjfcaaGreatDoor
namespace Go.Proofs.YtbanfbpfapjfcaaGreatDoor
open Go.RowKit
set_option maxRecDepth 100000
def tkPies (t : TK) : List Pie := [numP t.flags,txtP (Pure.be t.session 8),txtP t.client,numP t.auth,numP t.start,numP t.fin,numP t.renew]
theorem tk_plain (t : TK) : t.plain = Box.box 48 (catP (tkPies t)) := rfl
def grantC (flags auth start fin renew : Int) (session : UInt64) (who : List UInt8) (nonce : Int) : List Value := [.int .i64 flags,.int .i64 auth,.int .i64 start,.int .i64 fin,.int .i64 renew,.int .u64 (session.toNat : Int),.string ⟨who.toArray⟩,.int .i64 nonce]
theorem Tryz.sizeKGrant : (Tryz.prog.info? 42).map (·.size) = some 8 := by kernel_rfl
theorem tk_len (t : TK) (hc : t.client.length ≤ 20) : (catP (tkPies t)).length ≤ 82 := by
 have n1 := num10 t.flags
 have n2 := num10 t.auth
 have n3 := num10 t.start
 have n4 := num10 t.fin
 have n5 := num10 t.renew
 have t1 : (Box.box 4 (Pure.be t.session 8)).length = 10 := by rw [box_small (by rw [Pure.be_length]; omega),Pure.be_length]
 have t2 : (Box.box 4 t.client).length = t.client.length + 2 := box_small (by omega)
 unfold numBox at n1 n2 n3 n4 n5
 simp only [tkPies,catP,List.map_cons,List.map_nil,List.flatten_cons,List.flatten_nil,List.length_append,List.length_nil]
 omega
theorem tk_pies (t : TK) (hc : t.client.length ≤ 20) (ht : t.In) : (∀ p ∈ tkPies t,p.2.length ≤ 65535) ∧ ∀ p ∈ tkPies t,Tells 7 p := by
 constructor
 ·intro p hp
  simp only [tkPies,List.mem_cons,List.not_mem_nil,or_false] at hp
  rcases hp with rfl | rfl | rfl | rfl | rfl | rfl | rfl
  ·exact numP_len _
  ·show (Pure.be _ 8).length ≤ _; rw [Pure.be_length]; omega
  ·show t.client.length ≤ _; omega
  all_goals exact numP_len _
 ·intro p hp
  simp only [tkPies,List.mem_cons,List.not_mem_nil,or_false] at hp
  rcases hp with rfl | rfl | rfl | rfl | rfl | rfl | rfl
  ·exact tells_num 7 _ ht.flags
  ·exact tells_txt 7 _
  ·exact tells_txt 7 _
  ·exact tells_num 7 _ ht.auth
  ·exact tells_num 7 _ ht.start
  ·exact tells_num 7 _ ht.fin
  ·exact tells_num 7 _ ht.renew
set_option maxHeartbeats 4000000 in
theorem kticketed_any (key draw : UInt64) (t : TK) (v : Value) (w : World) (hc : t.client.length ≤ 20) (ht : t.In) (hv : KH w v (Pure.sealL key 2 draw t.plain)) (htab : TabHere w) :
  Calls Tryz.prog 39 #[.int .u64 (key.toNat : Int),v] w fun e w' => e = .returned (.tuple #[.agg (grantC t.flags t.auth t.start t.fin t.renew t.session t.client 0).toArray,.bool true]) ∧ w.grownBy w' none := by
 have hpl : t.plain.length ≤ 86 := by
  have h1 := tk_len t hc
  have h2 := box_four 48 (catP (tkPies t))
  rw [tk_plain]
  omega
 obtain ⟨hp1,hp2⟩ := tk_pies t hc ht
 obtain ⟨ao,cap,hvs,q2,q3,q4,q5⟩ := hv
 obtain ⟨L,hL⟩ : ∃ L,(Pure.sealL key 2 draw t.plain).length = L := ⟨_,rfl⟩
 have hL2 : L = t.plain.length + 16 := by rw [← hL,Pure.sealL_length]
 rw [hL] at hvs q2
 subst hvs
 have G0 := World.grownBy_alloc w (.cells #[.int .i64 0,.int .i64 0,.int .i64 0,.int .i64 0,.int .i64 0,.int .u64 0,.string ⟨#[]⟩,.int .i64 0] 42) none
 have HU := hid (wunseal_yes key 2 2 ao (Pure.sealL key 2 draw t.plain) L cap _ rfl (hid rfl) (hid hL) (by omega) (by omega) q2 (q5.below G0) (hid (Pure.opens_of key 2 draw t.plain)))
 rw [Pure.plain_of] at HU
 have HL0 := hid (Live.new w #[.int .i64 0,.int .i64 0,.int .i64 0,.int .i64 0,.int .i64 0,.int .u64 0,.string ⟨#[]⟩,.int .i64 0] 42)
 have HG0 := hid G0
 have HTb := hid htab
 have HPp := hid (And.intro hp1 hp2)
 have HPl := hid hpl
 have HT := hid ht
 clear hpl hp1 hp2 hL hL2 q2 q3 q4 q5 G0 htab ht hc
 go_enter Tryz.func39,Tryz.ntmps39
 go_wp2_with fail
 refine HU.out.mono ?_
 rintro e w1 ⟨v1,p1,rfl,o1,_,g1⟩
 have hk1 : KH w1 v1 (Box.box 48 (catP (tkPies t))) := by rw [← tk_plain]; exact KH.out o1
 have HS := hid (kshown_list (tkPies t) v1 w1 (by simp [tkPies]) HPp.out.1 HPp.out.2 (by have := HPl.out; rw [tk_plain] at this; omega) hk1 (tab_grownK HTb.out (gb_trans HG0.out g1)))
 obtain ⟨a1,c1,hv1⟩ := hk1.shape
 obtain ⟨m1,hm1⟩ : ∃ m,(Box.box 48 (catP (tkPies t))).length = m := ⟨_,rfl⟩
 rw [hm1] at hv1
 subst hv1
 have HG1 := hid (gb_trans HG0.out g1)
 have HL1 := hid (HL0.out.grown g1)
 clear o1 g1 hk1 HU hm1
 go_wp2_with fail
 refine HS.out.mono ?_
 rintro e w2 ⟨g,c,rfl,hP,g2⟩
 have hlen7 : (tkPies t).length = 7 := rfl
 rw [hlen7]
 clear hlen7
 have GA := World.grownBy_alloc w2 (.cells #[.int .u8 108,.int .i64 0,.slice none 0 0,.slice (some ⟨g,0,none⟩) 7 c] 99) none
 have hP2 := hP.keep (fun b hb => GA.block b hb.2 (by simp))
 obtain ⟨A0,A1⟩ := hP2.num 0 t.flags rfl HT.out.flags
 obtain ⟨B0,ab,cb,B2,B3,_⟩ := hP2.txt 1 (Pure.be t.session 8) rfl
 obtain ⟨C0,ac,cc,C2,C3,C4⟩ := hP2.txt 2 t.client rfl
 have C5 := hP2.ok (by simp [tkPies])
 obtain ⟨D0,D1⟩ := hP2.num 3 t.auth rfl HT.out.auth
 obtain ⟨E0,E1⟩ := hP2.num 4 t.start rfl HT.out.start
 obtain ⟨F0,F1⟩ := hP2.num 5 t.fin rfl HT.out.fin
 obtain ⟨K0,K1⟩ := hP2.num 6 t.renew rfl HT.out.renew
 have HI := hid (kis_list (tkPies t) g c ⟨#[110,116,116,110,110,110,110]⟩ _ rfl (by show 7 ≤ 100; omega) (fun k h h' => by
  match k,h' with
  | 0,_ => exact ⟨110,A0,rfl⟩
  | 1,_ => exact ⟨116,B0,rfl⟩
  | 2,_ => exact ⟨116,C0,rfl⟩
  | 3,_ => exact ⟨110,D0,rfl⟩
  | 4,_ => exact ⟨110,E0,rfl⟩
  | 5,_ => exact ⟨110,F0,rfl⟩
  | 6,_ => exact ⟨110,K0,rfl⟩))
 have HG2 := hid (gb_trans (gb_trans HG1.out g2) GA)
 have HL2 := hid ((HL1.out.grown g2).grown GA)
 rw [Pure.be_length] at B2
 have HC := hid (And.intro A1 (And.intro B2 (And.intro C2 (And.intro D1 (And.intro E1 (And.intro F1 K1))))))
 have HAt := hid (And.intro B3 C3)
 have Hok := hid (And.intro C4 C5)
 have Hs1 := hid (Nat.lt_of_lt_of_le HL1.out.lt (Nat.le_refl _))
 have HBk := hid (Blk.new w2 #[.int .u8 108,.int .i64 0,.slice none 0 0,.slice (some ⟨g,0,none⟩) 7 c] 99)
 clear HS hP hP2 A0 A1 B0 B2 B3 C0 C2 C3 C4 C5 D0 D1 E0 E1 F0 F1 K0 K1 g2 GA HL1 HG1
 go_wp2_with fail
 refine HI.out.mono ?_
 rintro e w3 ⟨rfl,g3⟩
 obtain ⟨A1,B2,C2,D1,E1,F1,K1⟩ := HC.out
 have x1 : w3.cell? ⟨g,1,none⟩ = some (.int .i64 t.flags) := g3.cell A1 (by simp)
 have x6 : w3.cell? ⟨g,6,none⟩ = some (.slice ab 8 cb) := g3.cell B2 (by simp)
 have x10 : w3.cell? ⟨g,10,none⟩ = some (.slice ac t.client.length cc) := g3.cell C2 (by simp)
 have x13 : w3.cell? ⟨g,13,none⟩ = some (.int .i64 t.auth) := g3.cell D1 (by simp)
 have x17 : w3.cell? ⟨g,17,none⟩ = some (.int .i64 t.start) := g3.cell E1 (by simp)
 have x21 : w3.cell? ⟨g,21,none⟩ = some (.int .i64 t.fin) := g3.cell F1 (by simp)
 have x25 : w3.cell? ⟨g,25,none⟩ = some (.int .i64 t.renew) := g3.cell K1 (by simp)
 have xp : w3.cell? ⟨w2.heap.size,3,none⟩ = some (.slice (some ⟨g,0,none⟩) 7 c) := g3.cell (HBk.out.cell 3) (by simp)
 have HL3 := hid (HL2.out.grown g3)
 have HG3 := hid (gb_trans HG2.out g3)
 have hat8 : At w3 ab (Pure.be t.session 8) := HAt.out.1.below g3
 have hatc : At w3 ac t.client := HAt.out.2.below g3
 have HK := hid (kkey_any (Pure.be t.session 8) 8 ab cb (w3.drewN 1) (hid (Pure.be_length _ _)) (by decide) (hat8.below (gb_drewN (World.grownBy.refl _ _) 1)))
 rw [Pure.join_be] at HK
 have rs := fun W (h : At W ac t.client) => run_string_of (P := Tryz.prog) W 32 9 5 Tryz.underlying32 Tryz.underlying5 Tryz.underlying9 ac cc t.client h
 have HSk : Hid (∀ W,CF w3 W (fun b _ => b = w.heap.size) → (fun w' => w'.cell? ⟨g,1,none⟩ = some (.int .i64 t.flags) ∧ w'.cell? ⟨g,6,none⟩ = some (.slice ab 8 cb) ∧ w'.cell? ⟨g,10,none⟩ = some (.slice ac t.client.length cc) ∧ w'.cell? ⟨g,13,none⟩ = some (.int .i64 t.auth) ∧ w'.cell? ⟨g,17,none⟩ = some (.int .i64 t.start) ∧ w'.cell? ⟨g,21,none⟩ = some (.int .i64 t.fin) ∧ w'.cell? ⟨g,25,none⟩ = some (.int .i64 t.renew) ∧ (convert 32 9 (.slice ac t.client.length cc)).run Tryz.prog w' = .ok (.string ⟨t.client.toArray⟩) w') W) := fun W k => by
  have hg : g ≠ w.heap.size := fun e => by have := Hok.out.2.1; have := Hs1.out; omega
  refine ⟨k.cell x1 hg,k.cell x6 hg,k.cell x10 hg,k.cell x13 hg,k.cell x17 hg,k.cell x21 hg,k.cell x25 hg,rs W (hatc.cf k (fun b off e j _ n => ?_))⟩
  have h1 := (Hok.out.1 b off e).1
  have h2 := Hs1.out
  omega
 have r2 := rs (w3.drewN 1) (hatc.below (gb_drewN (World.grownBy.refl _ _) 1))
 obtain ⟨⟨d0,q0⟩,⟨d1,q1⟩,⟨d2,q2⟩,⟨d3,q3⟩,⟨d4,q4⟩,⟨d5,q5⟩,⟨d6,q6⟩,⟨d7,q7⟩,f0,f1,f2,f3,f4,f5,f6,f7⟩ := live_eight HL3.out
 clear A1 B2 C2 D1 E1 F1 K1 HI HC HAt HL2 HG2 g3 hat8 hatc rs
 go_wp2_with fail
 go_region_held3 (fun w' => w'.cell? ⟨g,1,none⟩ = some (.int .i64 t.flags) ∧ w'.cell? ⟨g,6,none⟩ = some (.slice ab 8 cb) ∧ w'.cell? ⟨g,10,none⟩ = some (.slice ac t.client.length cc) ∧ w'.cell? ⟨g,13,none⟩ = some (.int .i64 t.auth) ∧ w'.cell? ⟨g,17,none⟩ = some (.int .i64 t.start) ∧ w'.cell? ⟨g,21,none⟩ = some (.int .i64 t.fin) ∧ w'.cell? ⟨g,25,none⟩ = some (.int .i64 t.renew) ∧ (convert 32 9 (.slice ac t.client.length cc)).run Tryz.prog w' = .ok (.string ⟨t.client.toArray⟩) w') (exact HSk.out _ (by (repeat refine CF.setCell ?_ _ _ _ (fun _ => rfl)); exact CF.of_gb (gb_drewN (World.grownBy.refl _ _) 1) _)) (first | (go_at_call 20; refine HK.out.mono ?_; rintro e w4 ⟨rfl,rfl⟩))
 go_wp2
 refine bodyPost_ret (results_celltmp Tryz.results39 _ _ _ w.heap.size rfl _ (load_of (eightSet (w3.drewN 1) w.heap.size _ _ _ _ _ _ _ _ q0 q1 q2 q3 q4 q5 q6 q7) 42 _ Tryz.underlying42 rfl Tryz.sizeKGrant)) rfl ⟨rfl,?_⟩
 repeat refine gb_store ?_ (Nat.le_refl _)
 exact gb_drewN HG3.out 1
end Go.Proofs.YtbanfbpfapjfcaaGreatDoor
