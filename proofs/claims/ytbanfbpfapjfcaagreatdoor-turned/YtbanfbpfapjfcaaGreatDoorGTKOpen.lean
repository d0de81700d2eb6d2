/-
  
  
  
  
  
  
  
-/
import Derived.Test.YtbanfbpfapjfcaaGreatDoorGTKMake
import Derived.Test.YtbanfbpfapjfcaaGreatDoorGTKPtd
import Derived.Test.YtbanfbpfapjfcaaGreatDoorGTQBat
import Derived.Test.YtbanfbpfapjfcaaGreatDoorGTKCameB
namespace Go.Proofs.YtbanfbpfapjfcaaGreatDoor
open Go.RowKit
set_option maxRecDepth 100000
theorem Tryz.sizeKDesk : (Tryz.prog.info? 31).map (·.size) = some 2 := by kernel_rfl
theorem put2 {w : World} {g : Nat} {c0 c1 : Value} (h : Blk w g #[c0,c1]) (v0 v1 : Value) : Blk ((w.setCell ⟨g,0,none⟩ v0).setCell ⟨g,1,none⟩ v1) g #[v0,v1] := by
 simpa using (h.set 0 v0).set 1 v1
theorem cf2K (w1 : World) (b : Nat) (x y : Value) : CF w1 ((w1.setCell ⟨b,0,none⟩ x).setCell ⟨b,1,none⟩ y) (fun g _ => g = b) := CF.setCell (CF.setCell (CF.of_gb (World.grownBy.refl w1 none) (fun g _ => g = b)) b 0 x (fun _ => rfl)) b 1 y (fun _ => rfl)
theorem fresh_ne {n : Nat} {dp : Option Pl} (h : Pl.fresh (n + 1) dp) : ∀ p,dp = some p → p.g ≠ n := fun p hp e => by
 have h2 := h p hp
 omega
theorem fresh_le {n : Nat} {dp : Option Pl} (h : Pl.fresh (n + 1) dp) : Pl.fresh n dp := fun p hp => by
 have h2 := h p hp
 omega
set_option maxHeartbeats 2000000 in
theorem kopen_ok (q : Bool) (skew : Int) (av : Option Addr) (nv cv n : Nat) (bs : List UInt8) (w : World) (h0 : 0 ≤ skew) (h1 : skew ≤ 300) (C : ∀ w1,w.grownBy w1 none → Calls Tryz.prog 128 #[.slice av nv cv] w1 fun e w' => ∃ ao c,e = .returned (.agg #[.slice ao n c]) ∧ w'.ownsRow w1.heap.size 5 1 (.slice ao n c) n (bs.map U8) ∧ w1.grownBy w' none) :
  Calls Tryz.prog 30 #[.bool q,.int .i64 skew,.slice av nv cv] w fun e w' => ∃ g dp,e = .returned (.tuple #[.agg (deskV q g),.bool true]) ∧ DeskIs q w' g dp ⟨skew,[],[],bs⟩ ∧ w.heap.size ≤ g ∧ Pl.fresh w.heap.size dp ∧ (∀ p,dp = some p → p.g ≠ g) ∧ w.grownBy w' none := by
 have G0 := World.grownBy_alloc w (.cells #[.pointer none,.pointer none] 31) none
 have HB := hid (Blk.new w #[.pointer none,.pointer none] 31)
 cases q with
 | true =>
  have HN := hid (newQuick_ok skew (.slice av nv cv) n bs _ h0 h1 (fun w1 k => C w1 (gb_trans G0 k)))
  have HG0 := hid G0
  clear C G0 h0 h1
  go_enter Tryz.func30,Tryz.ntmps30
  go_wp2_with fail
  refine HN.out.mono ?_
  rintro e w1 ⟨b,dp,rfl,hD,hb,hf,hne,g1⟩
  rw [World.size_alloc] at hb hf
  have HD := hid (And.intro hD (And.intro hb (And.intro hf (And.intro hne g1))))
  have HR := hid (HB.out.grown g1 (by simp))
  obtain ⟨q0,q1⟩ := HR.out.two
  have f0 := HR.out.frozen 0
  have f1 := HR.out.frozen 1
  clear hD hb hf hne g1 HN
  go_wp2
  obtain ⟨hD,hb,hf,hne,g1⟩ := HD.out
  refine bodyPost_ret (results_celltmp Tryz.results30 _ _ _ w.heap.size rfl _ (Blk.load (put2 HR.out _ _) 31 _ Tryz.underlying31 rfl Tryz.sizeKDesk)) rfl ⟨b,dp,rfl,?_,by omega,fresh_le hf,hne,gb_store (gb_store (gb_trans HG0.out g1) (Nat.le_refl _)) (Nat.le_refl _)⟩
  refine DeskIs.cf (q := true) (ex := fun b _ => b = w.heap.size) hD (cf2K w1 w.heap.size _ _) (fun _ e => ?_) (fun p hp _ e => fresh_ne hf p hp e)
  omega
 | false =>
  have HN := hid (newPlain_ok skew (.slice av nv cv) n bs _ h0 h1 (fun w1 k => C w1 (gb_trans G0 k)))
  have HG0 := hid G0
  clear C G0 h0 h1
  go_enter Tryz.func30,Tryz.ntmps30
  go_wp2_with fail
  refine HN.out.mono ?_
  rintro e w1 ⟨b,dp,rfl,hD,hb,hf,hne,g1⟩
  rw [World.size_alloc] at hb hf
  have HD := hid (And.intro hD (And.intro hb (And.intro hf (And.intro hne g1))))
  have HR := hid (HB.out.grown g1 (by simp))
  obtain ⟨q0,q1⟩ := HR.out.two
  have f0 := HR.out.frozen 0
  have f1 := HR.out.frozen 1
  clear hD hb hf hne g1 HN
  go_wp2
  obtain ⟨hD,hb,hf,hne,g1⟩ := HD.out
  refine bodyPost_ret (results_celltmp Tryz.results30 _ _ _ w.heap.size rfl _ (Blk.load (put2 HR.out _ _) 31 _ Tryz.underlying31 rfl Tryz.sizeKDesk)) rfl ⟨b,dp,rfl,?_,by omega,fresh_le hf,hne,gb_store (gb_store (gb_trans HG0.out g1) (Nat.le_refl _)) (Nat.le_refl _)⟩
  refine DeskIs.cf (q := false) (ex := fun b _ => b = w.heap.size) hD (cf2K w1 w.heap.size _ _) (fun _ e => ?_) (fun p hp _ e => fresh_ne hf p hp e)
  omega
end Go.Proofs.YtbanfbpfapjfcaaGreatDoor
namespace Go.Proofs.YtbanfbpfapjfcaaGreatDoor
open Go.RowKit
set_option maxRecDepth 100000
theorem pNum_numP (v : Int) (h : In64 v) : pNum (numP v) = some v := by
 unfold pNum
 rw [if_pos (show (numP v).1.toNat = 2 from rfl)]
 exact Box.num_low v h.1 h.2
theorem pText_txtP (l : List UInt8) : pText (txtP l) = some l := rfl
theorem pName_txtP (l : List UInt8) (h : isNameL l = true) : pName (txtP l) = some l := if_pos ⟨rfl,h⟩
theorem pKey_txtP (k : UInt64) : pKey (txtP (Pure.be k 8)) = some k := by
 unfold pKey
 rw [if_pos ⟨rfl,Pure.be_length k 8⟩,Pure.join_be]
theorem pList_lstP (ps : List Pie) (h : ∀ p ∈ ps,p.2.length ≤ 65535) : pList (lstP ps) = some ps := by
 unfold pList
 rw [if_pos (show (lstP ps).1.toNat = 48 from rfl)]
 exact catP_cuts ps h
theorem listOf_box (ps : List Pie) (h : ∀ p ∈ ps,p.2.length ≤ 65535) (hl : (catP ps).length ≤ 65535) : listOf (Box.box 48 (catP ps)) = some ps := by
 unfold listOf
 rw [cut_one (48,catP ps) hl]
 simp only
 rw [if_pos (by decide)]
 exact catP_cuts ps h
theorem name_le {l : List UInt8} (h : isNameL l = true) : l.length ≤ 16 := by
 unfold isNameL at h
 simp only [Bool.and_eq_true,decide_eq_true_eq] at h
 exact h.1.2
theorem low_le (v : Int) : (Box.low v (Box.size v)).length ≤ 65535 := by
 rw [Box.low_length]
 have := (size_bounds v).2
 omega
theorem firstReq_box (client service : List UInt8) (nonce sFrom till rtime opts : Int) : firstReq client service nonce sFrom till rtime opts = Box.box 48 (catP [numP 10,txtP client,txtP service,numP nonce,numP sFrom,numP till,numP rtime,numP opts,lstP []]) := rfl
theorem first_of (client service : List UInt8) (nonce sFrom till rtime opts : Int) (hc : isNameL client = true) (hs : isNameL service = true) (h1 : In64 nonce) (h2 : In64 sFrom) (h3 : In64 till) (h4 : In64 rtime) (h5 : In64 opts) : firstOf (firstReq client service nonce sFrom till rtime opts) = some ⟨client,service,nonce,sFrom,till,rtime,opts,none⟩ := by
 have l1 := name_le hc
 have l2 := name_le hs
 have hf := first_flat client service nonce sFrom till rtime opts (by omega) (by omega)
 have hcat : (catP [numP 10,txtP client,txtP service,numP nonce,numP sFrom,numP till,numP rtime,numP opts,lstP []]).length ≤ 120 := hf
 unfold firstOf
 rw [firstReq_box,if_pos (by have := box_four 48 (catP [numP 10,txtP client,txtP service,numP nonce,numP sFrom,numP till,numP rtime,numP opts,lstP []]); omega),listOf_box _ (by
  intro p hp
  simp only [List.mem_cons,List.not_mem_nil,or_false] at hp
  rcases hp with rfl | rfl | rfl | rfl | rfl | rfl | rfl | rfl | rfl
  ·exact low_le _
  ·show client.length ≤ _; omega
  ·show service.length ≤ _; omega
  ·exact low_le _
  ·exact low_le _
  ·exact low_le _
  ·exact low_le _
  ·exact low_le _
  ·exact (by decide : (catP []).length ≤ 65535)) (by omega)]
 have hp : preOf (lstP []) = some none := by
  unfold preOf
  rw [pList_lstP [] (by simp)]
 simp only [Option.bind_some,firstP,nextP,pNum_numP 10 ⟨by decide,by decide⟩,if_pos,pName_txtP client hc,pName_txtP service hs,pNum_numP _ h1,pNum_numP _ h2,pNum_numP _ h3,pNum_numP _ h4,pNum_numP _ h5,hp,endP]
theorem nextReq_box (t : TK) (s : BE) (a : UInt64) (proof service : List UInt8) (nonce till opts : Int) : nextReq (ticketBox t s a) proof service nonce till opts = Box.box 48 (catP [numP 12,lstP (tbPies t s a),txtP proof,txtP service,numP nonce,numP till,numP 0,numP opts]) := rfl
theorem tb_pie (t : TK) (s : BE) (a : UInt64) (hc : t.client.length ≤ 3) (hs : isNameL s.name = true) (hn : In64 s.number) : pTicket (lstP (tbPies t s a)) = some (s.name,s.number,Pure.sealL s.key 2 a t.plain) := by
 have l1 := name_le hs
 have l3 := tk_len3 t hc
 unfold pTicket
 rw [pList_lstP _ (by
  intro p hp
  simp only [tbPies,List.mem_cons,List.not_mem_nil,or_false] at hp
  rcases hp with rfl | rfl | rfl
  ·show s.name.length ≤ _; omega
  ·exact low_le _
  ·show (Pure.sealL s.key 2 a t.plain).length ≤ _; rw [Pure.sealL_length]; omega)]
 simp only [Option.bind_some,ticketP,tbPies,nextP,pName_txtP _ hs,pNum_numP _ hn,pText_txtP,endP,if_pos]
theorem next_len (t : TK) (s : BE) (a : UInt64) (proof service : List UInt8) (nonce till opts : Int) (hc : t.client.length ≤ 3) (hs : s.name.length ≤ 3) (hp : proof.length ≤ 62) (hv : service.length ≤ 20) : (catP [numP 12,lstP (tbPies t s a),txtP proof,txtP service,numP nonce,numP till,numP 0,numP opts]).length ≤ 255 := by
 have h1 := tb_len t s a hc hs
 have h2 := box_four 48 (catP (tbPies t s a))
 exact next_flat (ticketBox t s a) proof service nonce till opts (by rw [tb_box]; omega) hp hv
theorem next_pies (t : TK) (s : BE) (a : UInt64) (proof service : List UInt8) (nonce till opts : Int) (hc : t.client.length ≤ 3) (hs : s.name.length ≤ 3) (hp : proof.length ≤ 62) (hv : service.length ≤ 20) : listOf (nextReq (ticketBox t s a) proof service nonce till opts) = some [numP 12,lstP (tbPies t s a),txtP proof,txtP service,numP nonce,numP till,numP 0,numP opts] := by
 have h1 := tb_len t s a hc hs
 rw [nextReq_box,listOf_box _ (by
  intro p hp2
  simp only [List.mem_cons,List.not_mem_nil,or_false] at hp2
  rcases hp2 with rfl | rfl | rfl | rfl | rfl | rfl | rfl | rfl
  ·exact low_le _
  ·show (catP (tbPies t s a)).length ≤ _; omega
  ·show proof.length ≤ _; omega
  ·show service.length ≤ _; omega
  ·exact low_le _
  ·exact low_le _
  ·exact low_le _
  ·exact low_le _) (by have := next_len t s a proof service nonce till opts hc hs hp hv; omega)]
theorem next_first (t : TK) (s : BE) (a : UInt64) (proof service : List UInt8) (nonce till opts : Int) (hc : t.client.length ≤ 3) (hs : s.name.length ≤ 3) (hp : proof.length ≤ 62) (hv : service.length ≤ 20) : firstOf (nextReq (ticketBox t s a) proof service nonce till opts) = none := by
 unfold firstOf
 split
 ·rw [next_pies t s a proof service nonce till opts hc hs hp hv]
  simp only [Option.bind_some,firstP,nextP,pNum_numP 12 ⟨by decide,by decide⟩]
  rw [if_neg (by decide)]
 ·rfl
theorem next_of (t : TK) (s : BE) (a : UInt64) (proof service : List UInt8) (nonce till opts : Int) (hc : t.client.length ≤ 3) (hs : s.name.length ≤ 3) (hsn : isNameL s.name = true) (hn : In64 s.number) (hp : proof.length ≤ 62) (hv : isNameL service = true) (h1 : In64 nonce) (h2 : In64 till) (h3 : In64 opts) : nextOf (nextReq (ticketBox t s a) proof service nonce till opts) = some ⟨s.name,s.number,Pure.sealL s.key 2 a t.plain,proof,service,nonce,till,0,opts⟩ := by
 have l1 := name_le hv
 have hl := next_len t s a proof service nonce till opts hc hs hp (by omega)
 have hb := box_four 48 (catP [numP 12,lstP (tbPies t s a),txtP proof,txtP service,numP nonce,numP till,numP 0,numP opts])
 unfold nextOf
 rw [if_pos (by rw [nextReq_box]; omega),next_pies t s a proof service nonce till opts hc hs hp (by omega)]
 simp only [Option.bind_some,nextQP,nextP,pNum_numP 12 ⟨by decide,by decide⟩,if_pos,tb_pie t s a hc hsn hn,pText_txtP,pName_txtP _ hv,pNum_numP _ h1,pNum_numP _ h2,pNum_numP 0 ⟨by decide,by decide⟩,pNum_numP _ h3,endP]
theorem open_seal (key use draw : UInt64) (plain : List UInt8) : openL key use (Pure.sealL key use draw plain) = some plain := by
 unfold openL
 rw [if_pos ⟨by rw [Pure.sealL_length]; omega,Pure.opens_of key use draw plain⟩,Pure.plain_of]
theorem ticket_in (t : TK) (hc : t.client.length ≤ 3) (hn : isNameL t.client = true) (ht : t.In) : ticketIn t.plain = some t := by
 have hb : t.plain = Box.box 48 (catP [numP t.flags,txtP (Pure.be t.session 8),txtP t.client,numP t.auth,numP t.start,numP t.fin,numP t.renew]) := rfl
 have hl := tk_len3 t hc
 unfold ticketIn
 rw [hb,listOf_box _ (by
  intro p hp
  simp only [List.mem_cons,List.not_mem_nil,or_false] at hp
  rcases hp with rfl | rfl | rfl | rfl | rfl | rfl | rfl
  ·exact low_le _
  ·show (Pure.be t.session 8).length ≤ _; rw [Pure.be_length]; omega
  ·show t.client.length ≤ _; omega
  ·exact low_le _
  ·exact low_le _
  ·exact low_le _
  ·exact low_le _) (by rw [hb,Box.box_length] at hl; omega)]
 simp only [Option.bind_some,ticketInP,nextP,pNum_numP _ ht.flags,pKey_txtP,pName_txtP _ hn,pNum_numP _ ht.auth,pNum_numP _ ht.start,pNum_numP _ ht.fin,pNum_numP _ ht.renew,endP,if_pos]
theorem proof_in (client : List UInt8) (at0 count : Int) (hn : isNameL client = true) (h1 : In64 at0) (h2 : In64 count) : proofIn (proofPlain client at0 count) = some ⟨client,at0,count⟩ := by
 have l1 := name_le hn
 have hl : (catP [txtP client,numP at0,numP count]).length ≤ 42 := proof_flat client at0 count (by omega)
 have hb : proofPlain client at0 count = Box.box 48 (catP [txtP client,numP at0,numP count]) := rfl
 unfold proofIn
 rw [hb,listOf_box _ (by
  intro p hp
  simp only [List.mem_cons,List.not_mem_nil,or_false] at hp
  rcases hp with rfl | rfl | rfl
  ·show client.length ≤ _; omega
  ·exact low_le _
  ·exact low_le _) (by omega)]
 simp only [Option.bind_some,proofInP,nextP,pName_txtP _ hn,pNum_numP _ h1,pNum_numP _ h2,endP,if_pos]
abbrev sealedProof (t : TK) (cnt : UInt64) (at0 : Int) : List UInt8 := Pure.sealL t.session 4 cnt (proofPlain t.client at0 cnt.toNat)
theorem sp_len (t : TK) (cnt : UInt64) (at0 : Int) (hc : t.client.length ≤ 3) : (sealedProof t cnt at0).length ≤ 62 := by
 have h1 : (catP [txtP t.client,numP at0,numP (cnt.toNat : Int)]).length ≤ 42 := proof_flat t.client at0 cnt.toNat (by omega)
 have hb : proofPlain t.client at0 cnt.toNat = Box.box 48 (catP [txtP t.client,numP at0,numP (cnt.toNat : Int)]) := rfl
 rw [Pure.sealL_length,hb]
 have := box_four 48 (catP [txtP t.client,numP at0,numP (cnt.toNat : Int)])
 omega
abbrev nq (t : TK) (s : BE) (a cnt : UInt64) (at0 : Int) (service : List UInt8) (nonce till opts : Int) : NQ := ⟨s.name,s.number,Pure.sealL s.key 2 a t.plain,sealedProof t cnt at0,service,nonce,till,0,opts⟩
theorem ans_next (M : DM) (now : Int) (t : TK) (s : BE) (a cnt : UInt64) (at0 : Int) (service : List UInt8) (nonce till opts : Int) (hc : t.client.length ≤ 3) (hs : s.name.length ≤ 3) (hsn : isNameL s.name = true) (hn : In64 s.number) (hv : isNameL service = true) (h1 : In64 nonce) (h2 : In64 till) (h3 : In64 opts) :
  answerM M now (nextReq (ticketBox t s a) (sealedProof t cnt at0) service nonce till opts) = nextM M now (nq t s a cnt at0 service nonce till opts) := by
 have l1 := name_le hv
 unfold answerM
 rw [next_first t s a _ service nonce till opts hc hs (sp_len t cnt at0 hc) (by omega),next_of t s a _ service nonce till opts hc hs hsn hn (sp_len t cnt at0 hc) hv h1 h2 h3]
theorem ans_first (M : DM) (now : Int) (client service : List UInt8) (nonce sFrom till rtime opts : Int) (hc : isNameL client = true) (hs : isNameL service = true) (h1 : In64 nonce) (h2 : In64 sFrom) (h3 : In64 till) (h4 : In64 rtime) (h5 : In64 opts) :
  answerM M now (firstReq client service nonce sFrom till rtime opts) = finishM M now (firstM M now ⟨client,service,nonce,sFrom,till,rtime,opts,none⟩) := by
 unfold answerM
 rw [first_of client service nonce sFrom till rtime opts hc hs h1 h2 h3 h4 h5]
theorem next_open (M : DM) (now : Int) (t : TK) (s e : BE) (a cnt : UInt64) (at0 : Int) (service : List UInt8) (nonce till opts : Int) (hc : t.client.length ≤ 3) (hcn : isNameL t.client = true) (ht : t.In) (hsn : s.name = [116,103,115]) (hf : BE.find M.book [116,103,115] = some e) (hk : e.keyOf s.number = some s.key) (h1 : In64 at0) (h2 : In64 (cnt.toNat : Int)) :
  nextOpen M now (nq t s a cnt at0 service nonce till opts) = if M.skew < apartT at0 now then .error 37 else .ok (t,⟨t.client,at0,cnt.toNat⟩) := by
 unfold nextOpen
 rw [if_neg (by simp [hsn])]
 simp only [hsn,hf,hk,open_seal,Option.bind_some,ticket_in t hc hcn ht,proof_in t.client at0 cnt.toNat hcn h1 h2,ne_eq,not_true_eq_false,if_false]
theorem next_grant {M : DM} {now : Int} {q : NQ} {t t' : TK} {p : PF} {s x : BE} (ho : nextOpen M now q = .ok (t,p)) (hpc : proofCode M.skew now M.proofs p = 0) (h1 : ¬ (bitB t.flags 16 = true ∧ bitB q.opts 32 = false ∨ satAdd now M.skew < t.start)) (h2 : ¬ t.fin < now) (hs : BE.find M.book q.service = some s) (hx : BE.find M.book t.client = some x) (hpair : pairCode (some s) (some x) now 7 6 2 1 = 0) (hopt : optsOk q.opts t.flags = true) (hfr : fresh now t x s q.till q.rtime q.opts = .ok t') (hd : 24 ≤ M.draws.length) :
  nextM M now q = (giveBox 13 { t' with session := drawAt M.draws 0 } s q.nonce 0 t.session 5 (drawAt M.draws 1) (drawAt M.draws 2),{ M with proofs := nearP M.skew now M.proofs ++ [p],draws := M.draws.drop 24 }) := by
 have hn : proofsNext M.skew now M.proofs p = nearP M.skew now M.proofs ++ [p] := by unfold proofsNext; rw [if_pos hpc]
 unfold nextM
 rw [ho]
 simp only
 rw [if_neg (by rw [hpc]; simp),hn]
 have hr : nextRest { M with proofs := nearP M.skew now M.proofs ++ [p] } now q t = .ok ⟨13,t',s,q.nonce,0,t.session,5⟩ := by
  unfold nextRest
  rw [if_neg h1,if_neg h2]
  simp only [hs,hx,hpair,hopt,hfr,ne_eq,not_true_eq_false,if_false,Bool.true_eq_false]
 rw [hr]
 unfold finishM
 simp only
 rw [if_neg (by omega)]
 rfl
theorem next_rest {M : DM} {now : Int} {q : NQ} {t : TK} {p : PF} {c : Int} (ho : nextOpen M now q = .ok (t,p)) (hpc : proofCode M.skew now M.proofs p = 0) (hr : nextRest { M with proofs := nearP M.skew now M.proofs ++ [p] } now q t = .error c) : nextM M now q = (refusalBox now c,{ M with proofs := nearP M.skew now M.proofs ++ [p] }) := by
 have hn : proofsNext M.skew now M.proofs p = nearP M.skew now M.proofs ++ [p] := by unfold proofsNext; rw [if_pos hpc]
 unfold nextM
 rw [ho]
 simp only
 rw [if_neg (by rw [hpc]; simp),hn,hr]
 rfl
theorem first_grant {M : DM} {now : Int} {q : FQ} {x s : BE} (hx : BE.find M.book q.client = some x) (hs : BE.find M.book q.service = some s) (hpair : pairCode (some x) (some s) now 6 7 1 2 = 0) (hf : firstCode M.skew now q x s = 0) (hd : 24 ≤ M.draws.length) :
  finishM M now (firstM M now q) = (giveBox 11 { firstTK now q x s with session := drawAt M.draws 0 } s q.nonce x.number x.key 3 (drawAt M.draws 1) (drawAt M.draws 2),{ M with draws := M.draws.drop 24 }) := by
 have hr : firstM M now q = .ok ⟨11,firstTK now q x s,s,q.nonce,x.number,x.key,3⟩ := by
  unfold firstM
  simp only [hx,hs,hpair,hf,ne_eq,not_true_eq_false,if_false]
 rw [hr]
 unfold finishM
 simp only
 rw [if_neg (by omega)]
 rfl
abbrev nTgs : List UInt8 := [116,103,115]
abbrev nAl : List UInt8 := [97,108]
abbrev nWeb : List UInt8 := [119,101,98]
abbrev kB (nm : List UInt8) (key : UInt64) (l : Int) : BE := ⟨nm,1,key,0,l,3 * l,0,30⟩
abbrev hBook (a b c : Int) : List BE := [kB nAl 1000002 b,kB nTgs 1000001 a,kB nWeb 1000003 c]
end Go.Proofs.YtbanfbpfapjfcaaGreatDoor
namespace Go.Proofs.YtbanfbpfapjfcaaGreatDoor
open Go.RowKit
set_option maxRecDepth 100000
def FR (lo hi : Nat) (w w' : World) : Prop := CF w w' (fun b _ => lo ≤ b ∧ b < hi)
theorem FR.gb {lo hi : Nat} {w w' : World} (k : w.grownBy w' none) : FR lo hi w w' := CF.of_gb k _
theorem FR.refl (lo hi : Nat) (w : World) : FR lo hi w w := FR.gb (World.grownBy.refl w none)
theorem FR.trans {lo hi : Nat} {a b c : World} (h : FR lo hi a b) (k : FR lo hi b c) : FR lo hi a c := CF.trans h k (fun _ _ _ e => e)
theorem FR.drew {lo hi : Nat} {a b : World} (h : FR lo hi a b) : FR lo hi a b.drew := CF.drew h
theorem FR.alloc {lo hi : Nat} {a b : World} (h : FR lo hi a b) (o : Obj) : FR lo hi a (b.alloc o) := CF.alloc h o
theorem FR.size {lo hi : Nat} {a b : World} (h : FR lo hi a b) : a.heap.size ≤ b.heap.size := CF.size h
theorem Blk.fr {lo hi g : Nat} {w w' : World} {cs : Array Value} (h : Blk w g cs) (k : FR lo hi w w') (hg : g < lo ∨ hi ≤ g) : Blk w' g cs := h.kept (CF.block k g h.lt (fun _ e => by omega))
theorem FR.below {lo hi n : Nat} {w0 w w' : World} (h : Below n w0 w) (k : FR lo hi w w') (hn : n ≤ lo) (hs : n ≤ w.heap.size) : Below n w0 w' := h.trans (CF.below k hs (fun b _ hb e => by omega))
def KX (lo hi : Nat) (w : World) (v : Value) (zs : List UInt8) : Prop := KH w v zs ∧ ∀ b off n c,v = .slice (some ⟨b,off,none⟩) n c → b < lo ∨ hi ≤ b
theorem KX.fr {lo hi : Nat} {w w' : World} {v : Value} {zs : List UInt8} (h : KX lo hi w v zs) (k : FR lo hi w w') : KX lo hi w' v zs := by
 obtain ⟨ao,cap,hv⟩ := h.1.shape
 subst hv
 refine ⟨KH.cfK h.1 k (fun b off e ⟨o,ho⟩ => ?_),h.2⟩
 have := h.2 b off _ _ (by rw [e])
 omega
theorem KX.cf {lo hi : Nat} {w w' : World} {ex : Nat → Nat → Prop} {v : Value} {zs : List UInt8} (h : KX lo hi w v zs) (k : CF w w' ex) (hx : ∀ b off n c,v = .slice (some ⟨b,off,none⟩) n c → ∀ o,¬ ex b o) : KX lo hi w' v zs := by
 obtain ⟨ao,cap,hv⟩ := h.1.shape
 subst hv
 exact ⟨KH.cfK h.1 k (fun b off e ⟨o,ho⟩ => hx b off _ _ (by rw [e]) o ho),h.2⟩
theorem Blk.cfo {w w' : World} {ex : Nat → Nat → Prop} {g : Nat} {cs : Array Value} (h : Blk w g cs) (k : CF w w' ex) (hx : ∀ o,¬ ex g o) : Blk w' g cs := h.kept (k.block g h.lt hx)
theorem KMade.place {n : Nat} {w : World} {o : Value} {z : List UInt8} (h : KMade n w o z) (b off m c : Nat) (e : o = .slice (some ⟨b,off,none⟩) m c) : n ≤ b ∧ b < w.heap.size := by
 rcases h.2 with ⟨hv,_⟩ | ⟨g,cap,cur,hv,hb,hg,_⟩
 ·rw [hv] at e; cases e
 ·rw [hv] at e
  injection e with e1 e2 e3
  injection e1 with e1
  injection e1 with e1
  subst e1
  exact ⟨hb,(Array.getElem?_eq_some_iff.1 hg).1⟩
theorem KX.out {lo hi n : Nat} {w : World} {v : Value} {p : Option Pl} {zs : List UInt8} (h : Out w v p zs) (hf : Pl.fresh n p) (hn : hi ≤ n) : KX lo hi w v zs := by
 refine ⟨KH.out h,fun b off m c e => ?_⟩
 rcases h with ⟨_,hv,_⟩ | ⟨q,hq,hv,_⟩
 ·rw [hv] at e; cases e
 ·rw [hv] at e
  injection e with e1 e2 e3
  injection e1 with e1
  injection e1 with e1
  have := hf q hq
  omega
theorem KX.made {lo hi n : Nat} {w : World} {v : Value} {zs : List UInt8} (h : KMade n w v zs) (hn : hi ≤ n) : KX lo hi w v zs := by
 obtain ⟨p,ho,hf⟩ := Out.own h
 exact KX.out ho hf hn
theorem KMade.base {n n' : Nat} {w : World} {o : Value} {z : List UInt8} (h : KMade n w o z) (hb : n' ≤ n) : KMade n' w o z := own_base h hb
def KS (q : Bool) (lo hi : Nat) (w : World) (g : Nat) (M : DM) : Prop := lo ≤ g ∧ g < hi ∧ ∃ dp,DeskIs q w g dp M ∧ ∀ p,dp = some p → p.g ≠ g ∧ lo ≤ p.g ∧ p.g < hi
theorem KS.gb {q : Bool} {lo hi g : Nat} {w w' : World} {M : DM} (h : KS q lo hi w g M) (k : w.grownBy w' none) : KS q lo hi w' g M := by
 obtain ⟨h1,h2,dp,h3,h4⟩ := h
 exact ⟨h1,h2,dp,h3.grown k,h4⟩
theorem KS.cf {q : Bool} {lo hi g : Nat} {w w' : World} {M : DM} {ex : Nat → Nat → Prop} (h : KS q lo hi w g M) (k : CF w w' ex) (hx : ∀ b y,ex b y → b < lo ∨ hi ≤ b) : KS q lo hi w' g M := by
 obtain ⟨h1,h2,dp,h3,h4⟩ := h
 refine ⟨h1,h2,dp,h3.cf k (fun y e => ?_) (fun p hp y e => ?_),h4⟩
 ·have := hx _ _ e; omega
 ·have := hx _ _ e; have := h4 p hp; omega
structure MOk (M : DM) : Prop where
 ins : ∀ e ∈ M.book,e.In
 sorted : M.book.Pairwise (fun x y => Op.bytesLess x.name y.name = true)
 skew : In64 M.skew
 times : ∀ y ∈ M.proofs,In64 y.time
theorem kans_any (q : Bool) (lo hi g : Nat) (M M' : DM) (now : Int) (req rep : List UInt8) (v : Value) (w : World) (hA : answerM M now req = (rep,M')) (hS : KS q lo hi w g M) (hM : MOk M) (hv : KX lo hi w v req) (hl : req.length ≤ 300) (hr : rep.length ≤ 900) (hnow : In64 now) (hhi : hi ≤ w.heap.size) :
  Calls Tryz.prog 17 #[.agg (deskV q g),.int .i64 now,v] w fun e w' => ∃ a c,e = .returned (.slice a rep.length c) ∧ KX lo hi w' (.slice a rep.length c) rep ∧ KS q lo hi w' g M' ∧ FR lo hi w w' := by
 obtain ⟨h1,h2,dp,h3,h4⟩ := hS
 obtain ⟨⟨ao,cap,hv1,hv2,hv3,hv4,hv5⟩,hx⟩ := hv
 subst hv1
 have hb : Bs (ao,req) (.slice ao req.length cap) req := ⟨ao,cap,rfl,hv2,hv3,by omega,fun _ h => h⟩
 have hao : ∀ b off,ao = some ⟨b,off,none⟩ → b ≠ g := fun b off e e2 => by have := hx b off _ _ (by rw [e]); omega
 have key : ∀ (e : Ending) (w' : World),(∃ v',e = .returned v' ∧ KFin q w w' g dp v' (answerM M now req)) → ∃ a c,e = .returned (.slice a rep.length c) ∧ KX lo hi w' (.slice a rep.length c) rep ∧ KS q lo hi w' g M' ∧ FR lo hi w w' := by
  rintro e w' ⟨v',rfl,F⟩
  rw [hA] at F
  obtain ⟨a,c,hs⟩ := F.shape
  subst hs
  obtain ⟨p',o1,o2⟩ := F.out
  obtain ⟨dp',d1,d2⟩ := F.desk
  refine ⟨a,c,rfl,KX.out o1 o2 hhi,⟨h1,h2,dp',d1,fun p hp => ?_⟩,F.cf.mono (fun b _ _ e => by omega)⟩
  obtain ⟨q',hq',e⟩ := d2 p hp
  have := h4 q' hq'
  omega
 cases q with
 | false => exact (kanswer_plain g dp M now req req.length ao cap w h3 (fun q hq => (h4 q hq).1) hM.ins hM.sorted (hid rfl) hv5 hb hnow hM.skew hM.times).mono key
 | true => exact (kanswer_quick g dp M now req req.length ao cap w h3 (fun q hq => (h4 q hq).1) hM.ins hM.sorted (hid rfl) hv5 hao hb hnow hM.skew hM.times (by rw [hA]; exact hr)).mono key
theorem kadm_any (q : Bool) (lo hi g n : Nat) (M : DM) (es : List BE) (r : Int) (a : Adm) (w : World) (hA : admB M.book a = (es,r)) (hS : KS q lo hi w g M) (hok : BookOk n M.book) (hn : n ≤ 4611686018427387904) (hf0 : -9223372036854775808 ≤ a.flags) (hf1 : a.flags ≤ 9223372036854775807) (hl : a.name.length ≤ 9223372036854775807) (hk : (a.kind == 0) = false) :
  Calls Tryz.prog 25 #[.agg (deskV q g),.agg a.cells] w fun e w' => e = .returned (.int .i64 r) ∧ KS q lo hi w' g { M with book := es } ∧ FR lo hi w w' := by
 obtain ⟨h1,h2,dp,h3,h4⟩ := hS
 cases q with
 | false =>
  refine (kadmin_plain g dp M n a w h3 (fun q hq => (h4 q hq).1) hok hn hf0 hf1 hl).mono ?_
  rintro e w' ⟨rfl,d,c⟩
  rw [hA] at d ⊢
  exact ⟨rfl,⟨h1,h2,dp,d,h4⟩,c.mono (fun b _ _ e => by omega)⟩
 | true =>
  refine (kadmin_quick g dp M n a w h3 (fun q hq => (h4 q hq).1) hok hn hf0 hf1 hl hk).mono ?_
  rintro e w' ⟨rfl,d,c⟩
  rw [hA] at d ⊢
  exact ⟨rfl,⟨h1,h2,dp,d,h4⟩,c.mono (fun b _ _ e => by omega)⟩
theorem desk2 (q : Bool) (g : Nat) : ∃ p0 p1,deskV q g = #[.pointer p0,.pointer p1] := by cases q <;> exact ⟨_,_,rfl⟩
end Go.Proofs.YtbanfbpfapjfcaaGreatDoor
namespace Go.Proofs.YtbanfbpfapjfcaaGreatDoor
open Go.RowKit
set_option maxRecDepth 100000
set_option maxHeartbeats 1000000 in
theorem kdrawn_any (n : Nat) (seed : Int) (w : World) (hn : n ≤ 1000) :
  Calls Tryz.prog 29 #[.int .i64 (n : Int),.int .i64 seed] w fun e w' => ∃ o l,e = .returned o ∧ l.length = n ∧ KMade w.heap.size w' o l ∧ w.grownBy w' none := by
 obtain ⟨i0',hif,hz0,hz1,hz2⟩ := info_parts Tryz.info5
 go_enter Tryz.func29,Tryz.ntmps29
 go_wp2_with fail
 go_loopw [5,6,7] (fun bv xv i wr => ∃ (k : Nat) (xi : Int) (zs : List UInt8),k ≤ n ∧ i = .int .i64 (k : Int) ∧ xv = .int .u64 xi ∧ zs.length = k ∧ wr.ownsRow w.heap.size 5 1 bv k (zs.map U8) ∧ w.grownBy wr none) (fun _ _ i _ => n - (intOf i).toNat)
 case atStart =>
  exact ⟨0,_,[],Nat.zero_le _,rfl,rfl,rfl,World.ownsRow_nil _ _ _ _,World.grownBy.refl _ _⟩
 case round =>
  obtain ⟨k,xi,zs,hk,rfl,rfl,hzs,hown,hgr⟩ := hrel
  by_cases hlt : k < n
  ·have hltI : (k : Int) < (n : Int) := by omega
   obtain ⟨av,cv,rfl,_,_,hnc,hat⟩ := own_at2 hown
   obtain ⟨zj,hzj⟩ : ∃ z : UInt8,(IntKind.u64.wrap (IntKind.u64.wrap (xi * 6364136223846793005) + 1442695040888963407) / 72057594037927936 % 256) = (z.toNat : Int) := by
    generalize IntKind.u64.wrap (IntKind.u64.wrap (xi * 6364136223846793005) + 1442695040888963407) / 72057594037927936 = q
    refine ⟨UInt8.ofNat (q % 256).toNat,?_⟩
    have h1 := Int.emod_nonneg q (b := 256) (by decide)
    have h2 := Int.emod_lt_of_pos q (b := 256) (by decide)
    rw [UInt8.toNat_ofNat']
    omega
   clear hat
   go_wp2_with (at_builtin; rw [hzj]; refine wpList_append_at _ rfl _ _ 32 rfl w.heap.size 5 i0' Tryz.underlying32 hif hz0 hz1 hz2 _ _ _ rfl (hown.alloc _) (some ⟨wr.heap.size,0,none⟩) 1 1 [zj] rfl rfl ?a1 ?a2 ?a3 ?a4 ?_)
   case a1 => intro h; cases h
   case a2 => exact bytes_new wr _ _ _ rfl
   case a3 => omega
   case a4 => have h := hgr.size; simp; omega
   intro v1 w1 hown1 hg1 _
   have G1 : w.grownBy w1 none := gb_row (gb_alloc hgr _) hg1 (fun i hi => (hown.lt i hi).1)
   have RO : w1.ownsRow w.heap.size 5 1 v1 (k + 1) ((zs ++ [zj]).map U8) := by simpa using hown1
   obtain ⟨a1,c1,rfl,_,_,_,_⟩ := own_at2 RO
   clear hown hown1 hg1 hgr
   go_wp2
   go_roundw
   case rel =>
    exact ⟨k + 1,_,zs ++ [zj],by omega,by go_num,rfl,by simp [hzs],RO,G1⟩
   case measure =>
    simp [intOf]
    omega
  ·have hkn : k = n := by omega
   subst hkn
   have hltI : ¬ (k : Int) < (k : Int) := by omega
   go_wp2
   go_ret
   exact ⟨_,rfl,zs,hzs,by rw [← hzs] at hown; exact hown,hgr⟩
end Go.Proofs.YtbanfbpfapjfcaaGreatDoor
namespace Go.Proofs.YtbanfbpfapjfcaaGreatDoor
open Go.RowKit
set_option maxRecDepth 100000
theorem code0 (sk now : Int) (q : FQ) (x s : BE) (hp : preCode sk now x q.pre = 0) (ho : q.opts = 0) (hf : ¬ satAdd now sk < q.sFrom) (he : ¬ firstEnd now q x s ≤ firstStart now q) : firstCode sk now q x s = 0 := by
 unfold firstCode
 rw [if_neg (by rw [hp]; simp),if_neg (by rw [ho]; omega),if_neg (by rw [ho]; exact fun h => absurd h.1 (by decide)),if_neg (by exact fun h => hf h.2),if_neg he]
theorem sat_id {x : Int} (h : In64 x) : sat x = x := by
 unfold sat
 rw [if_neg (by have := h.1; omega),if_neg (by have := h.2; omega)]
theorem satAdd_id {a b : Int} (h : In64 (a + b)) : satAdd a b = a + b := sat_id h
theorem apart_le {a b : Int} (h : In64 (b - a)) (hab : a ≤ b) : apartT a b = b - a := by
 unfold apartT
 split
 ·exact sat_id h
 ·have : a = b := by omega
  subst this
  unfold satSub
  rw [sat_id (by constructor <;> omega)]
theorem lesser_le {a b : Int} (h : a ≤ b) : lesser a b = a := by
 unfold lesser
 split
 ·rfl
 ·omega
theorem lesser_ge {a b : Int} (h : b ≤ a) : lesser a b = b := by
 unfold lesser
 split
 ·omega
 ·rfl
theorem i64a (n : Int) (h : decide (-9223372036854775808 ≤ n ∧ n ≤ 9223372036854775807) = true) : In64 n := (of_decide_eq_true h : -9223372036854775808 ≤ n ∧ n ≤ 9223372036854775807)
theorem len_al : nAl.length ≤ 3 := by decide
end Go.Proofs.YtbanfbpfapjfcaaGreatDoor
namespace Go.Proofs.YtbanfbpfapjfcaaGreatDoor
open Go.RowKit
set_option maxRecDepth 100000
abbrev tT : BE := kB nTgs 1000001 100
abbrev tA : BE := kB nAl 1000002 100
abbrev tW : BE := kB nWeb 1000003 100
abbrev bT : List BE := hBook 100 100 100
abbrev tC (k : UInt64) : TK := ⟨37,k,nAl,1000,1000,1100,1300⟩
abbrev tD (k : UInt64) (now : Int) : TK := ⟨37,k,nAl,1000,now,now + 100,1300⟩
abbrev tF (k : UInt64) (now : Int) : TK := ⟨128,k,nAl,1000,now,now + 100,0⟩
abbrev tE (k : UInt64) (now : Int) : TK := ⟨32,k,nAl,now,now,now + 100,0⟩
theorem in_now {now x : Int} (h0 : 1000 ≤ now) (h1 : now ≤ 2000) (hx : 0 ≤ x) (hy : x ≤ 1000) : In64 (now + x) := ⟨by omega,by omega⟩
theorem in_of {now : Int} (h0 : 1000 ≤ now) (h1 : now ≤ 2000) : In64 now := ⟨by omega,by omega⟩
theorem tC_in (k : UInt64) : (tC k).In := ⟨i64a 37 rfl,i64a 1000 rfl,i64a 1000 rfl,i64a 1100 rfl,i64a 1300 rfl⟩
theorem tD_in (k : UInt64) (now : Int) (h0 : 1000 ≤ now) (h1 : now ≤ 2000) : (tD k now).In := ⟨i64a 37 rfl,i64a 1000 rfl,in_of h0 h1,in_now h0 h1 (by decide) (by decide),i64a 1300 rfl⟩
theorem tF_in (k : UInt64) (now : Int) (h0 : 1000 ≤ now) (h1 : now ≤ 2000) : (tF k now).In := ⟨i64a 128 rfl,i64a 1000 rfl,in_of h0 h1,in_now h0 h1 (by decide) (by decide),i64a 0 rfl⟩
theorem tE_in (k : UInt64) (now : Int) (h0 : 1000 ≤ now) (h1 : now ≤ 2000) : (tE k now).In := ⟨i64a 32 rfl,in_of h0 h1,in_of h0 h1,in_now h0 h1 (by decide) (by decide),i64a 0 rfl⟩
theorem apart_self (a : Int) : apartT a a = 0 := by
 rw [apart_le (by constructor <;> omega) (Int.le_refl _)]
 omega
theorem near_now (now : Int) (l : List PF) (h : ∀ p ∈ l,p.time = now) : nearP 20 now l = l := by
 unfold nearP
 rw [List.filter_eq_self]
 intro p hp
 rw [h p hp,apart_self]
 rfl
theorem turn_first (ds : List UInt8) (hd : 24 ≤ ds.length) :
  answerM ⟨20,bT,[],ds⟩ 1000 (firstReq nAl nTgs 1 0 0 0 5) = (giveBox 11 (tC (drawAt ds 0)) tT 1 1 1000002 3 (drawAt ds 1) (drawAt ds 2),⟨20,bT,[],ds.drop 24⟩) := by
 rw [ans_first _ _ nAl nTgs 1 0 0 0 5 (by decide) (by decide) ⟨by decide,by decide⟩ ⟨by decide,by decide⟩ ⟨by decide,by decide⟩ ⟨by decide,by decide⟩ ⟨by decide,by decide⟩]
 rw [first_grant (x := tA) (s := tT) rfl rfl rfl rfl hd]
 rfl
theorem turn_ans (pf : List PF) (ds : List UInt8) (t : TK) (a cnt : UInt64) (now : Int) (service : List UInt8) (opts : Int) (hc : t.client = nAl) (hv : isNameL service = true) (ho : In64 opts) : answerM ⟨20,bT,pf,ds⟩ now (nextReq (ticketBox t tT a) (sealedProof t cnt now) service 1 0 opts) = nextM ⟨20,bT,pf,ds⟩ now (nq t tT a cnt now service 1 0 opts) :=
 ans_next ⟨20,bT,pf,ds⟩ now t tT a cnt now service 1 0 opts (by rw [hc]; decide) (by decide) (by decide) ⟨by decide,by decide⟩ hv ⟨by decide,by decide⟩ ⟨by decide,by decide⟩ ho
theorem turn_open (pf : List PF) (ds : List UInt8) (t : TK) (a cnt : UInt64) (now : Int) (service : List UInt8) (opts : Int) (hc : t.client = nAl) (ht : t.In) (hn : In64 now) (h2 : In64 (cnt.toNat : Int)) :
  nextOpen ⟨20,bT,pf,ds⟩ now (nq t tT a cnt now service 1 0 opts) = .ok (t,⟨nAl,now,cnt.toNat⟩) := by
 rw [next_open ⟨20,bT,pf,ds⟩ now t tT tT a cnt now service 1 0 opts (by rw [hc]; decide) (by rw [hc]; decide) ht rfl rfl rfl hn h2,apart_self,if_neg (show ¬ (20 : Int) < 0 by decide),hc]
theorem not_early {now st : Int} {b c : Bool} (h0 : 1000 ≤ now) (h1 : now ≤ 2000) (hs : st ≤ now) (hb : b = false) : ¬ (b = true ∧ c = false ∨ satAdd now 20 < st) := by
 rintro (h | h)
 ·rw [hb] at h; exact absurd h.1 (by decide)
 ·rw [satAdd_id (a := now) (b := 20) ⟨by omega,by omega⟩] at h
  omega
theorem restK_opts {M : DM} {now : Int} {q : NQ} {t : TK} {s x : BE} (h1 : ¬ (bitB t.flags 16 = true ∧ bitB q.opts 32 = false ∨ satAdd now M.skew < t.start)) (h2 : ¬ t.fin < now) (hs : BE.find M.book q.service = some s) (hx : BE.find M.book t.client = some x) (hpair : pairCode (some s) (some x) now 7 6 2 1 = 0) (hopt : optsOk q.opts t.flags = false) : nextRest M now q t = .error 13 := by
 unfold nextRest
 rw [if_neg h1,if_neg h2]
 simp only [hs,hx,hpair,hopt,ne_eq,not_true_eq_false,if_false,if_true]
theorem turn_renew (ds : List UInt8) (k a : UInt64) (now : Int) (h0 : 1000 ≤ now) (h1 : now ≤ 1100) (hd : 24 ≤ ds.length) :
  answerM ⟨20,bT,[],ds⟩ now (nextReq (ticketBox (tC k) tT a) (sealedProof (tC k) 1 now) nTgs 1 0 16) = (giveBox 13 (tD (drawAt ds 0) now) tT 1 0 k 5 (drawAt ds 1) (drawAt ds 2),⟨20,bT,[⟨nAl,now,((1 : UInt64).toNat : Int)⟩],ds.drop 24⟩) := by
 have hf : fresh now (tC k) tA tT 0 0 16 = .ok (tD k now) := by
  unfold fresh
  rw [if_neg (by decide),if_pos (by decide),if_neg (show ¬ (1300 : Int) ≤ now by omega),show satSub (tC k).fin (tC k).start = 100 from rfl,satAdd_id (a := now) (b := 100) ⟨by omega,by omega⟩,lesser_ge (a := (tC k).renew) (b := now + 100) (show now + 100 ≤ (1300 : Int) by omega)]
 rw [turn_ans [] ds (tC k) a 1 now nTgs 16 rfl (by decide) ⟨by decide,by decide⟩,next_grant (t' := tD k now) (s := tT) (x := tA) (turn_open [] ds (tC k) a 1 now nTgs 16 rfl (tC_in k) (in_of h0 (by omega)) ⟨by decide,by decide⟩) rfl (not_early h0 (by omega) (show (1000 : Int) ≤ now from h0) rfl) (show ¬ (1100 : Int) < now by omega) rfl rfl rfl rfl hf hd]
 rfl
theorem turn_fwd (ds : List UInt8) (k a : UInt64) (now : Int) (h0 : 1000 ≤ now) (h1 : now ≤ 1100) (hd : 24 ≤ ds.length) :
  answerM ⟨20,bT,[⟨nAl,now,((1 : UInt64).toNat : Int)⟩],ds⟩ now (nextReq (ticketBox (tD k now) tT a) (sealedProof (tD k now) 2 now) nWeb 1 0 64) = (giveBox 13 (tF (drawAt ds 0) now) tW 1 0 k 5 (drawAt ds 1) (drawAt ds 2),⟨20,bT,[⟨nAl,now,((1 : UInt64).toNat : Int)⟩,⟨nAl,now,((2 : UInt64).toNat : Int)⟩],ds.drop 24⟩) := by
 have hn := near_now now [⟨nAl,now,((1 : UInt64).toNat : Int)⟩] (by simp)
 have he : derivedEnd now 0 (tD k now) tA tW = now + 100 := by
  unfold derivedEnd
  rw [satAdd_id (a := now) (b := tA.life) ⟨by show _ ≤ now + 100; omega,by show now + 100 ≤ _; omega⟩,lesser_ge (a := asked 0) (b := (tD k now).fin) (show now + 100 ≤ (9223372036854775807 : Int) by omega),lesser_le (a := now + tA.life) (b := now + tA.life) (Int.le_refl _)]
  exact lesser_le (Int.le_refl _)
 have hf : fresh now (tD k now) tA tW 0 0 64 = .ok (tF k now) := by
  unfold fresh
  rw [if_neg (by decide),if_neg (by decide),he,if_neg (by omega)]
  rfl
 rw [turn_ans _ ds (tD k now) a 2 now nWeb 64 rfl (by decide) ⟨by decide,by decide⟩,next_grant (t' := tF k now) (s := tW) (x := tA) (turn_open _ ds (tD k now) a 2 now nWeb 64 rfl (tD_in k now h0 (by omega)) (in_of h0 (by omega)) ⟨by decide,by decide⟩) (by unfold proofCode; rw [hn,if_neg (by simp),if_neg (by simp)]) (not_early h0 (by omega) (Int.le_refl _) rfl) (show ¬ now + 100 < now by omega) rfl rfl rfl rfl hf hd]
 simp only [hn]
 rfl
theorem turn_plain (pf : List PF) (ds : List UInt8) (now : Int) (h0 : 1000 ≤ now) (h1 : now ≤ 1100) (hd : 24 ≤ ds.length) :
  answerM ⟨20,bT,pf,ds⟩ now (firstReq nAl nTgs 1 0 0 0 0) = (giveBox 11 (tE (drawAt ds 0) now) tT 1 1 1000002 3 (drawAt ds 1) (drawAt ds 2),⟨20,bT,pf,ds.drop 24⟩) := by
 have he : firstEnd now ⟨nAl,nTgs,1,0,0,0,0,none⟩ tA tT = now + 100 := by
  unfold firstEnd
  rw [show firstStart now ⟨nAl,nTgs,1,0,0,0,0,none⟩ = now from rfl,satAdd_id (a := now) (b := tA.life) ⟨by show _ ≤ now + 100; omega,by show now + 100 ≤ _; omega⟩,lesser_le (a := now + tA.life) (b := now + tA.life) (Int.le_refl _)]
  exact lesser_ge (show now + 100 ≤ (9223372036854775807 : Int) by omega)
 rw [ans_first _ _ nAl nTgs 1 0 0 0 0 (by decide) (by decide) ⟨by decide,by decide⟩ ⟨by decide,by decide⟩ ⟨by decide,by decide⟩ ⟨by decide,by decide⟩ ⟨by decide,by decide⟩]
 rw [first_grant (x := tA) (s := tT) rfl rfl rfl (code0 20 now _ tA tT rfl rfl (by rw [satAdd_id (a := now) (b := 20) ⟨by omega,by omega⟩]; show ¬ _ < (0 : Int); omega) (by rw [he]; show ¬ now + 100 ≤ now; omega)) hd]
 have ht : firstTK now ⟨nAl,nTgs,1,0,0,0,0,none⟩ tA tT = tE 0 now := by
  unfold firstTK
  rw [he]
  rfl
 rw [ht]
theorem turn_bad (ds : List UInt8) (k a : UInt64) (now : Int) (h0 : 1000 ≤ now) (h1 : now ≤ 1100) :
  answerM ⟨20,bT,[⟨nAl,now,((1 : UInt64).toNat : Int)⟩,⟨nAl,now,((2 : UInt64).toNat : Int)⟩],ds⟩ now (nextReq (ticketBox (tE k now) tT a) (sealedProof (tE k now) 3 now) nWeb 1 0 64) = (refusalBox now 13,⟨20,bT,[⟨nAl,now,((1 : UInt64).toNat : Int)⟩,⟨nAl,now,((2 : UInt64).toNat : Int)⟩,⟨nAl,now,((3 : UInt64).toNat : Int)⟩],ds⟩) := by
 have hn := near_now now [⟨nAl,now,((1 : UInt64).toNat : Int)⟩,⟨nAl,now,((2 : UInt64).toNat : Int)⟩] (by simp)
 rw [turn_ans _ ds (tE k now) a 3 now nWeb 64 rfl (by decide) ⟨by decide,by decide⟩,next_rest (c := 13) (turn_open _ ds (tE k now) a 3 now nWeb 64 rfl (tE_in k now h0 (by omega)) (in_of h0 (by omega)) ⟨by decide,by decide⟩) (by unfold proofCode; rw [hn,if_neg (by simp),if_neg (by simp)]) (restK_opts (s := tW) (x := tA) (not_early h0 (by omega) (Int.le_refl _) rfl) (show ¬ now + 100 < now by omega) rfl rfl rfl rfl)]
 simp only [hn]
 rfl
end Go.Proofs.YtbanfbpfapjfcaaGreatDoor
namespace Go.Proofs.YtbanfbpfapjfcaaGreatDoor
open Go.RowKit
set_option maxRecDepth 100000
abbrev tP (k : UInt64) : TK := ⟨56,k,nAl,1000,1050,1150,0⟩
abbrev tV (k : UInt64) : TK := ⟨40,k,nAl,1000,1050,1150,0⟩
abbrev tX (k : UInt64) (now : Int) : TK := ⟨0,k,nAl,1000,now,1150,0⟩
theorem tP_in (k : UInt64) : (tP k).In := ⟨i64a 56 rfl,i64a 1000 rfl,i64a 1050 rfl,i64a 1150 rfl,i64a 0 rfl⟩
theorem tV_in (k : UInt64) : (tV k).In := ⟨i64a 40 rfl,i64a 1000 rfl,i64a 1050 rfl,i64a 1150 rfl,i64a 0 rfl⟩
theorem tX_in (k : UInt64) (now : Int) (h0 : 1000 ≤ now) (h1 : now ≤ 2000) : (tX k now).In := ⟨i64a 0 rfl,i64a 1000 rfl,in_of h0 h1,i64a 1150 rfl,i64a 0 rfl⟩
theorem post_first (ds : List UInt8) (hd : 24 ≤ ds.length) :
  answerM ⟨20,bT,[],ds⟩ 1000 (firstReq nAl nTgs 1 1050 0 0 8) = (giveBox 11 (tP (drawAt ds 0)) tT 1 1 1000002 3 (drawAt ds 1) (drawAt ds 2),⟨20,bT,[],ds.drop 24⟩) := by
 rw [ans_first _ _ nAl nTgs 1 1050 0 0 8 (by decide) (by decide) ⟨by decide,by decide⟩ ⟨by decide,by decide⟩ ⟨by decide,by decide⟩ ⟨by decide,by decide⟩ ⟨by decide,by decide⟩]
 rw [first_grant (x := tA) (s := tT) rfl rfl rfl rfl hd]
 rfl
theorem restK_early {M : DM} {now : Int} {q : NQ} {t : TK} (h : bitB t.flags 16 = true ∧ bitB q.opts 32 = false ∨ satAdd now M.skew < t.start) : nextRest M now q t = .error 33 := by
 unfold nextRest
 rw [if_pos h]
theorem restK_fresh {M : DM} {now : Int} {q : NQ} {t : TK} {s x : BE} {c : Int} (h1 : ¬ (bitB t.flags 16 = true ∧ bitB q.opts 32 = false ∨ satAdd now M.skew < t.start)) (h2 : ¬ t.fin < now) (hs : BE.find M.book q.service = some s) (hx : BE.find M.book t.client = some x) (hpair : pairCode (some s) (some x) now 7 6 2 1 = 0) (hopt : optsOk q.opts t.flags = true) (hfr : fresh now t x s q.till q.rtime q.opts = .error c) : nextRest M now q t = .error c := by
 unfold nextRest
 rw [if_neg h1,if_neg h2]
 simp only [hs,hx,hpair,hopt,hfr,ne_eq,not_true_eq_false,if_false,Bool.true_eq_false]
theorem post_x (ds : List UInt8) (k a : UInt64) (now : Int) (h0 : 1000 ≤ now) (h1 : now ≤ 1149) :
  answerM ⟨20,bT,[],ds⟩ now (nextReq (ticketBox (tP k) tT a) (sealedProof (tP k) 1 now) nWeb 1 0 0) = (refusalBox now 33,⟨20,bT,[⟨nAl,now,((1 : UInt64).toNat : Int)⟩],ds⟩) := by
 rw [turn_ans [] ds (tP k) a 1 now nWeb 0 rfl (by decide) ⟨by decide,by decide⟩,next_rest (c := 33) (turn_open [] ds (tP k) a 1 now nWeb 0 rfl (tP_in k) (in_of h0 (by omega)) ⟨by decide,by decide⟩) rfl (restK_early (.inl ⟨rfl,rfl⟩))]
 rfl
theorem valid_sides {now : Int} (h0 : 1030 ≤ now) (h1 : now ≤ 2000) {M : DM} (hs : M.skew = 20) {q : NQ} (hq : bitB q.opts 32 = true) {t : TK} (ht : t.start = 1050) : ¬ (bitB t.flags 16 = true ∧ bitB q.opts 32 = false ∨ satAdd now M.skew < t.start) := by
 rintro (h | h)
 ·rw [hq] at h; exact absurd h.2 (by decide)
 ·rw [hs,ht,satAdd_id (a := now) (b := 20) ⟨by omega,by omega⟩] at h
  omega
theorem post_early (ds : List UInt8) (k a : UInt64) (now : Int) (h0 : 1000 ≤ now) (h1 : now < 1050) :
  answerM ⟨20,bT,[⟨nAl,now,((1 : UInt64).toNat : Int)⟩],ds⟩ now (nextReq (ticketBox (tP k) tT a) (sealedProof (tP k) 2 now) nTgs 1 0 32) = (refusalBox now 33,⟨20,bT,[⟨nAl,now,((1 : UInt64).toNat : Int)⟩,⟨nAl,now,((2 : UInt64).toNat : Int)⟩],ds⟩) := by
 have hn := near_now now [⟨nAl,now,((1 : UInt64).toNat : Int)⟩] (by simp)
 have hr : ∀ M : DM,M.skew = 20 → M.book = bT → nextRest M now (nq (tP k) tT a 2 now nTgs 1 0 32) (tP k) = .error 33 := by
  intro M hs hb
  by_cases hc : now < 1030
  ·exact restK_early (.inr (by rw [hs,satAdd_id (a := now) (b := 20) ⟨by omega,by omega⟩]; show now + 20 < (1050 : Int); omega))
  ·refine restK_fresh (s := tT) (x := tA) (valid_sides (by omega) (by omega) hs rfl rfl) (show ¬ (1150 : Int) < now by omega) (by rw [hb]; rfl) (by rw [hb]; rfl) rfl rfl ?_
   unfold fresh
   rw [if_pos (show bitB 32 32 = true from rfl),if_pos (show now < (1050 : Int) from h1)]
 rw [turn_ans _ ds (tP k) a 2 now nTgs 32 rfl (by decide) ⟨by decide,by decide⟩,next_rest (c := 33) (turn_open _ ds (tP k) a 2 now nTgs 32 rfl (tP_in k) (in_of h0 (by omega)) ⟨by decide,by decide⟩) (by unfold proofCode; rw [hn,if_neg (by simp),if_neg (by simp)]) (hr _ rfl rfl)]
 simp only [hn]
 rfl
theorem post_valid (ds : List UInt8) (k a : UInt64) (now : Int) (h0 : 1050 ≤ now) (h1 : now ≤ 1149) (hd : 24 ≤ ds.length) :
  answerM ⟨20,bT,[⟨nAl,now,((1 : UInt64).toNat : Int)⟩],ds⟩ now (nextReq (ticketBox (tP k) tT a) (sealedProof (tP k) 2 now) nTgs 1 0 32) = (giveBox 13 (tV (drawAt ds 0)) tT 1 0 k 5 (drawAt ds 1) (drawAt ds 2),⟨20,bT,[⟨nAl,now,((1 : UInt64).toNat : Int)⟩,⟨nAl,now,((2 : UInt64).toNat : Int)⟩],ds.drop 24⟩) := by
 have hn := near_now now [⟨nAl,now,((1 : UInt64).toNat : Int)⟩] (by simp)
 have hf : fresh now (tP k) tA tT 0 0 32 = .ok (tV k) := by
  unfold fresh
  rw [if_pos (by decide),if_neg (show ¬ now < (1050 : Int) by omega)]
  rfl
 rw [turn_ans _ ds (tP k) a 2 now nTgs 32 rfl (by decide) ⟨by decide,by decide⟩,next_grant (t' := tV k) (s := tT) (x := tA) (turn_open _ ds (tP k) a 2 now nTgs 32 rfl (tP_in k) (in_of (by omega) (by omega)) ⟨by decide,by decide⟩) (by unfold proofCode; rw [hn,if_neg (by simp),if_neg (by simp)]) (valid_sides (by omega) (by omega) rfl rfl rfl) (show ¬ (1150 : Int) < now by omega) rfl rfl rfl rfl hf hd]
 simp only [hn]
 rfl
theorem post_web (ds : List UInt8) (k a : UInt64) (now : Int) (h0 : 1050 ≤ now) (h1 : now ≤ 1149) (hd : 24 ≤ ds.length) :
  answerM ⟨20,bT,[⟨nAl,now,((1 : UInt64).toNat : Int)⟩,⟨nAl,now,((2 : UInt64).toNat : Int)⟩],ds⟩ now (nextReq (ticketBox (tV k) tT a) (sealedProof (tV k) 3 now) nWeb 1 0 0) = (giveBox 13 (tX (drawAt ds 0) now) tW 1 0 k 5 (drawAt ds 1) (drawAt ds 2),⟨20,bT,[⟨nAl,now,((1 : UInt64).toNat : Int)⟩,⟨nAl,now,((2 : UInt64).toNat : Int)⟩,⟨nAl,now,((3 : UInt64).toNat : Int)⟩],ds.drop 24⟩) := by
 have hn := near_now now [⟨nAl,now,((1 : UInt64).toNat : Int)⟩,⟨nAl,now,((2 : UInt64).toNat : Int)⟩] (by simp)
 have he : derivedEnd now 0 (tV k) tA tW = 1150 := by
  unfold derivedEnd
  rw [satAdd_id (a := now) (b := tA.life) ⟨by show _ ≤ now + 100; omega,by show now + 100 ≤ _; omega⟩,show lesser (asked 0) (tV k).fin = 1150 from rfl,lesser_le (a := now + tA.life) (b := now + tA.life) (Int.le_refl _)]
  exact lesser_le (show (1150 : Int) ≤ now + 100 by omega)
 have hf : fresh now (tV k) tA tW 0 0 0 = .ok (tX k now) := by
  unfold fresh
  rw [if_neg (by decide),if_neg (by decide),he,if_neg (by omega)]
  rfl
 rw [turn_ans _ ds (tV k) a 3 now nWeb 0 rfl (by decide) ⟨by decide,by decide⟩,next_grant (t' := tX k now) (s := tW) (x := tA) (turn_open _ ds (tV k) a 3 now nWeb 0 rfl (tV_in k) (in_of (by omega) (by omega)) ⟨by decide,by decide⟩) (by unfold proofCode; rw [hn,if_neg (by simp),if_neg (by simp)]) (not_early (by omega) (by omega) (show (1050 : Int) ≤ now from h0) rfl) (show ¬ (1150 : Int) < now by omega) rfl rfl rfl rfl hf hd]
 simp only [hn]
 rfl
end Go.Proofs.YtbanfbpfapjfcaaGreatDoor
