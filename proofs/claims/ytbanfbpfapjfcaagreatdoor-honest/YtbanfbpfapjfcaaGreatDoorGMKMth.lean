/-
  
  
  
-/
import Derived.Test.YtbanfbpfapjfcaaGreatDoorGMKTick
import Derived.Test.YtbanfbpfapjfcaaGreatDoorGMQNew
import Derived.Test.YtbanfbpfapjfcaaGreatDoorGMKMake
import Derived.Test.YtbanfbpfapjfcaaGreatDoorGMKCameB
namespace Go.Proofs.YtbanfbpfapjfcaaGreatDoor
open Go.RowKit
set_option maxRecDepth 100000
theorem pNum_numP (v : Int) (h : In64 v) : pNum (numP v) = some v := by
 unfold pNum
 rw [if_pos (show (numP v).1.toNat = 2 from rfl)]
 exact Box.num_low v h.1 h.2
theorem pText_txtP (l : List UInt8) : pText (txtP l) = some l := rfl
theorem pName_txtP (l : List UInt8) (h : isNameL l = true) : pName (txtP l) = some l := if_pos ⟨rfl,h⟩
theorem pKey_txtP (k : UInt64) : pKey (txtP (Pure.be k 8)) = some k := by
 unfold pKey
 rw [if_pos ⟨rfl,Pure.be_length k 8⟩,Pure.join_be]
theorem pList_lstP (ps : List Pie) (h : ∀ p ∈ ps,p.2.length ≤ 65535) : pList (lstP ps) = some ps := by
 unfold pList
 rw [if_pos (show (lstP ps).1.toNat = 48 from rfl)]
 exact catP_cuts ps h
theorem listOf_box (ps : List Pie) (h : ∀ p ∈ ps,p.2.length ≤ 65535) (hl : (catP ps).length ≤ 65535) : listOf (Box.box 48 (catP ps)) = some ps := by
 unfold listOf
 rw [cut_one (48,catP ps) hl]
 simp only
 rw [if_pos (by decide)]
 exact catP_cuts ps h
theorem name_le {l : List UInt8} (h : isNameL l = true) : l.length ≤ 16 := by
 unfold isNameL at h
 simp only [Bool.and_eq_true,decide_eq_true_eq] at h
 exact h.1.2
theorem low_le (v : Int) : (Box.low v (Box.size v)).length ≤ 65535 := by
 rw [Box.low_length]
 have := (size_bounds v).2
 omega
theorem firstReq_box (client service : List UInt8) (nonce sFrom till rtime opts : Int) : firstReq client service nonce sFrom till rtime opts = Box.box 48 (catP [numP 10,txtP client,txtP service,numP nonce,numP sFrom,numP till,numP rtime,numP opts,lstP []]) := rfl
theorem first_of (client service : List UInt8) (nonce sFrom till rtime opts : Int) (hc : isNameL client = true) (hs : isNameL service = true) (h1 : In64 nonce) (h2 : In64 sFrom) (h3 : In64 till) (h4 : In64 rtime) (h5 : In64 opts) : firstOf (firstReq client service nonce sFrom till rtime opts) = some ⟨client,service,nonce,sFrom,till,rtime,opts,none⟩ := by
 have l1 := name_le hc
 have l2 := name_le hs
 have hf := first_flat client service nonce sFrom till rtime opts (by omega) (by omega)
 have hcat : (catP [numP 10,txtP client,txtP service,numP nonce,numP sFrom,numP till,numP rtime,numP opts,lstP []]).length ≤ 120 := hf
 unfold firstOf
 rw [firstReq_box,if_pos (by have := box_four 48 (catP [numP 10,txtP client,txtP service,numP nonce,numP sFrom,numP till,numP rtime,numP opts,lstP []]); omega),listOf_box _ (by
  intro p hp
  simp only [List.mem_cons,List.not_mem_nil,or_false] at hp
  rcases hp with rfl | rfl | rfl | rfl | rfl | rfl | rfl | rfl | rfl
  ·exact low_le _
  ·show client.length ≤ _; omega
  ·show service.length ≤ _; omega
  ·exact low_le _
  ·exact low_le _
  ·exact low_le _
  ·exact low_le _
  ·exact low_le _
  ·exact (by decide : (catP []).length ≤ 65535)) (by omega)]
 have hp : preOf (lstP []) = some none := by
  unfold preOf
  rw [pList_lstP [] (by simp)]
 simp only [Option.bind_some,firstP,nextP,pNum_numP 10 ⟨by decide,by decide⟩,if_pos,pName_txtP client hc,pName_txtP service hs,pNum_numP _ h1,pNum_numP _ h2,pNum_numP _ h3,pNum_numP _ h4,pNum_numP _ h5,hp,endP]
theorem nextReq_box (t : TK) (s : BE) (a : UInt64) (proof service : List UInt8) (nonce till opts : Int) : nextReq (ticketBox t s a) proof service nonce till opts = Box.box 48 (catP [numP 12,lstP (tbPies t s a),txtP proof,txtP service,numP nonce,numP till,numP 0,numP opts]) := rfl
theorem tb_pie (t : TK) (s : BE) (a : UInt64) (hc : t.client.length ≤ 3) (hs : isNameL s.name = true) (hn : In64 s.number) : pTicket (lstP (tbPies t s a)) = some (s.name,s.number,Pure.sealL s.key 2 a t.plain) := by
 have l1 := name_le hs
 have l3 := tk_len3 t hc
 unfold pTicket
 rw [pList_lstP _ (by
  intro p hp
  simp only [tbPies,List.mem_cons,List.not_mem_nil,or_false] at hp
  rcases hp with rfl | rfl | rfl
  ·show s.name.length ≤ _; omega
  ·exact low_le _
  ·show (Pure.sealL s.key 2 a t.plain).length ≤ _; rw [Pure.sealL_length]; omega)]
 simp only [Option.bind_some,ticketP,tbPies,nextP,pName_txtP _ hs,pNum_numP _ hn,pText_txtP,endP,if_pos]
theorem next_len (t : TK) (s : BE) (a : UInt64) (proof service : List UInt8) (nonce till opts : Int) (hc : t.client.length ≤ 3) (hs : s.name.length ≤ 3) (hp : proof.length ≤ 62) (hv : service.length ≤ 20) : (catP [numP 12,lstP (tbPies t s a),txtP proof,txtP service,numP nonce,numP till,numP 0,numP opts]).length ≤ 255 := by
 have h1 := tb_len t s a hc hs
 have h2 := box_four 48 (catP (tbPies t s a))
 exact next_flat (ticketBox t s a) proof service nonce till opts (by rw [tb_box]; omega) hp hv
theorem next_pies (t : TK) (s : BE) (a : UInt64) (proof service : List UInt8) (nonce till opts : Int) (hc : t.client.length ≤ 3) (hs : s.name.length ≤ 3) (hp : proof.length ≤ 62) (hv : service.length ≤ 20) : listOf (nextReq (ticketBox t s a) proof service nonce till opts) = some [numP 12,lstP (tbPies t s a),txtP proof,txtP service,numP nonce,numP till,numP 0,numP opts] := by
 have h1 := tb_len t s a hc hs
 rw [nextReq_box,listOf_box _ (by
  intro p hp2
  simp only [List.mem_cons,List.not_mem_nil,or_false] at hp2
  rcases hp2 with rfl | rfl | rfl | rfl | rfl | rfl | rfl | rfl
  ·exact low_le _
  ·show (catP (tbPies t s a)).length ≤ _; omega
  ·show proof.length ≤ _; omega
  ·show service.length ≤ _; omega
  ·exact low_le _
  ·exact low_le _
  ·exact low_le _
  ·exact low_le _) (by have := next_len t s a proof service nonce till opts hc hs hp hv; omega)]
theorem next_first (t : TK) (s : BE) (a : UInt64) (proof service : List UInt8) (nonce till opts : Int) (hc : t.client.length ≤ 3) (hs : s.name.length ≤ 3) (hp : proof.length ≤ 62) (hv : service.length ≤ 20) : firstOf (nextReq (ticketBox t s a) proof service nonce till opts) = none := by
 unfold firstOf
 split
 ·rw [next_pies t s a proof service nonce till opts hc hs hp hv]
  simp only [Option.bind_some,firstP,nextP,pNum_numP 12 ⟨by decide,by decide⟩]
  rw [if_neg (by decide)]
 ·rfl
theorem next_of (t : TK) (s : BE) (a : UInt64) (proof service : List UInt8) (nonce till opts : Int) (hc : t.client.length ≤ 3) (hs : s.name.length ≤ 3) (hsn : isNameL s.name = true) (hn : In64 s.number) (hp : proof.length ≤ 62) (hv : isNameL service = true) (h1 : In64 nonce) (h2 : In64 till) (h3 : In64 opts) : nextOf (nextReq (ticketBox t s a) proof service nonce till opts) = some ⟨s.name,s.number,Pure.sealL s.key 2 a t.plain,proof,service,nonce,till,0,opts⟩ := by
 have l1 := name_le hv
 have hl := next_len t s a proof service nonce till opts hc hs hp (by omega)
 have hb := box_four 48 (catP [numP 12,lstP (tbPies t s a),txtP proof,txtP service,numP nonce,numP till,numP 0,numP opts])
 unfold nextOf
 rw [if_pos (by rw [nextReq_box]; omega),next_pies t s a proof service nonce till opts hc hs hp (by omega)]
 simp only [Option.bind_some,nextQP,nextP,pNum_numP 12 ⟨by decide,by decide⟩,if_pos,tb_pie t s a hc hsn hn,pText_txtP,pName_txtP _ hv,pNum_numP _ h1,pNum_numP _ h2,pNum_numP 0 ⟨by decide,by decide⟩,pNum_numP _ h3,endP]
theorem open_seal (key use draw : UInt64) (plain : List UInt8) : openL key use (Pure.sealL key use draw plain) = some plain := by
 unfold openL
 rw [if_pos ⟨by rw [Pure.sealL_length]; omega,Pure.opens_of key use draw plain⟩,Pure.plain_of]
theorem ticket_in (t : TK) (hc : t.client.length ≤ 3) (hn : isNameL t.client = true) (ht : t.In) : ticketIn t.plain = some t := by
 have hb : t.plain = Box.box 48 (catP [numP t.flags,txtP (Pure.be t.session 8),txtP t.client,numP t.auth,numP t.start,numP t.fin,numP t.renew]) := rfl
 have hl := tk_len3 t hc
 unfold ticketIn
 rw [hb,listOf_box _ (by
  intro p hp
  simp only [List.mem_cons,List.not_mem_nil,or_false] at hp
  rcases hp with rfl | rfl | rfl | rfl | rfl | rfl | rfl
  ·exact low_le _
  ·show (Pure.be t.session 8).length ≤ _; rw [Pure.be_length]; omega
  ·show t.client.length ≤ _; omega
  ·exact low_le _
  ·exact low_le _
  ·exact low_le _
  ·exact low_le _) (by rw [hb,Box.box_length] at hl; omega)]
 simp only [Option.bind_some,ticketInP,nextP,pNum_numP _ ht.flags,pKey_txtP,pName_txtP _ hn,pNum_numP _ ht.auth,pNum_numP _ ht.start,pNum_numP _ ht.fin,pNum_numP _ ht.renew,endP,if_pos]
theorem proof_in (client : List UInt8) (at0 count : Int) (hn : isNameL client = true) (h1 : In64 at0) (h2 : In64 count) : proofIn (proofPlain client at0 count) = some ⟨client,at0,count⟩ := by
 have l1 := name_le hn
 have hl : (catP [txtP client,numP at0,numP count]).length ≤ 42 := proof_flat client at0 count (by omega)
 have hb : proofPlain client at0 count = Box.box 48 (catP [txtP client,numP at0,numP count]) := rfl
 unfold proofIn
 rw [hb,listOf_box _ (by
  intro p hp
  simp only [List.mem_cons,List.not_mem_nil,or_false] at hp
  rcases hp with rfl | rfl | rfl
  ·show client.length ≤ _; omega
  ·exact low_le _
  ·exact low_le _) (by omega)]
 simp only [Option.bind_some,proofInP,nextP,pName_txtP _ hn,pNum_numP _ h1,pNum_numP _ h2,endP,if_pos]
abbrev sealedProof (t : TK) (cnt : UInt64) (at0 : Int) : List UInt8 := Pure.sealL t.session 4 cnt (proofPlain t.client at0 cnt.toNat)
theorem sp_len (t : TK) (cnt : UInt64) (at0 : Int) (hc : t.client.length ≤ 3) : (sealedProof t cnt at0).length ≤ 62 := by
 have h1 : (catP [txtP t.client,numP at0,numP (cnt.toNat : Int)]).length ≤ 42 := proof_flat t.client at0 cnt.toNat (by omega)
 have hb : proofPlain t.client at0 cnt.toNat = Box.box 48 (catP [txtP t.client,numP at0,numP (cnt.toNat : Int)]) := rfl
 rw [Pure.sealL_length,hb]
 have := box_four 48 (catP [txtP t.client,numP at0,numP (cnt.toNat : Int)])
 omega
abbrev nq (t : TK) (s : BE) (a cnt : UInt64) (at0 : Int) (service : List UInt8) (nonce till opts : Int) : NQ := ⟨s.name,s.number,Pure.sealL s.key 2 a t.plain,sealedProof t cnt at0,service,nonce,till,0,opts⟩
theorem ans_next (M : DM) (now : Int) (t : TK) (s : BE) (a cnt : UInt64) (at0 : Int) (service : List UInt8) (nonce till opts : Int) (hc : t.client.length ≤ 3) (hs : s.name.length ≤ 3) (hsn : isNameL s.name = true) (hn : In64 s.number) (hv : isNameL service = true) (h1 : In64 nonce) (h2 : In64 till) (h3 : In64 opts) :
  answerM M now (nextReq (ticketBox t s a) (sealedProof t cnt at0) service nonce till opts) = nextM M now (nq t s a cnt at0 service nonce till opts) := by
 have l1 := name_le hv
 unfold answerM
 rw [next_first t s a _ service nonce till opts hc hs (sp_len t cnt at0 hc) (by omega),next_of t s a _ service nonce till opts hc hs hsn hn (sp_len t cnt at0 hc) hv h1 h2 h3]
theorem ans_first (M : DM) (now : Int) (client service : List UInt8) (nonce sFrom till rtime opts : Int) (hc : isNameL client = true) (hs : isNameL service = true) (h1 : In64 nonce) (h2 : In64 sFrom) (h3 : In64 till) (h4 : In64 rtime) (h5 : In64 opts) :
  answerM M now (firstReq client service nonce sFrom till rtime opts) = finishM M now (firstM M now ⟨client,service,nonce,sFrom,till,rtime,opts,none⟩) := by
 unfold answerM
 rw [first_of client service nonce sFrom till rtime opts hc hs h1 h2 h3 h4 h5]
theorem next_open (M : DM) (now : Int) (t : TK) (s e : BE) (a cnt : UInt64) (at0 : Int) (service : List UInt8) (nonce till opts : Int) (hc : t.client.length ≤ 3) (hcn : isNameL t.client = true) (ht : t.In) (hsn : s.name = [116,103,115]) (hf : BE.find M.book [116,103,115] = some e) (hk : e.keyOf s.number = some s.key) (h1 : In64 at0) (h2 : In64 (cnt.toNat : Int)) :
  nextOpen M now (nq t s a cnt at0 service nonce till opts) = if M.skew < apartT at0 now then .error 37 else .ok (t,⟨t.client,at0,cnt.toNat⟩) := by
 unfold nextOpen
 rw [if_neg (by simp [hsn])]
 simp only [hsn,hf,hk,open_seal,Option.bind_some,ticket_in t hc hcn ht,proof_in t.client at0 cnt.toNat hcn h1 h2,ne_eq,not_true_eq_false,if_false]
theorem next_grant {M : DM} {now : Int} {q : NQ} {t t' : TK} {p : PF} {s x : BE} (ho : nextOpen M now q = .ok (t,p)) (hpc : proofCode M.skew now M.proofs p = 0) (h1 : ¬ (bitB t.flags 16 = true ∧ bitB q.opts 32 = false ∨ satAdd now M.skew < t.start)) (h2 : ¬ t.fin < now) (hs : BE.find M.book q.service = some s) (hx : BE.find M.book t.client = some x) (hpair : pairCode (some s) (some x) now 7 6 2 1 = 0) (hopt : optsOk q.opts t.flags = true) (hfr : fresh now t x s q.till q.rtime q.opts = .ok t') (hd : 24 ≤ M.draws.length) :
  nextM M now q = (giveBox 13 { t' with session := drawAt M.draws 0 } s q.nonce 0 t.session 5 (drawAt M.draws 1) (drawAt M.draws 2),{ M with proofs := nearP M.skew now M.proofs ++ [p],draws := M.draws.drop 24 }) := by
 have hn : proofsNext M.skew now M.proofs p = nearP M.skew now M.proofs ++ [p] := by unfold proofsNext; rw [if_pos hpc]
 unfold nextM
 rw [ho]
 simp only
 rw [if_neg (by rw [hpc]; simp),hn]
 have hr : nextRest { M with proofs := nearP M.skew now M.proofs ++ [p] } now q t = .ok ⟨13,t',s,q.nonce,0,t.session,5⟩ := by
  unfold nextRest
  rw [if_neg h1,if_neg h2]
  simp only [hs,hx,hpair,hopt,hfr,ne_eq,not_true_eq_false,if_false,Bool.true_eq_false]
 rw [hr]
 unfold finishM
 simp only
 rw [if_neg (by omega)]
 rfl
theorem next_refuse {M : DM} {now : Int} {q : NQ} {c : Int} (ho : nextOpen M now q = .error c) : nextM M now q = (refusalBox now c,M) := by
 unfold nextM
 rw [ho]
theorem next_taken {M : DM} {now : Int} {q : NQ} {t : TK} {p : PF} {c : Int} (ho : nextOpen M now q = .ok (t,p)) (hpc : proofCode M.skew now M.proofs p = c) (hc : c ≠ 0) : nextM M now q = (refusalBox now c,{ M with proofs := nearP M.skew now M.proofs }) := by
 have hn : proofsNext M.skew now M.proofs p = nearP M.skew now M.proofs := by unfold proofsNext; rw [if_neg (by rw [hpc]; exact hc)]
 unfold nextM
 rw [ho]
 simp only
 rw [if_pos (by rw [hpc]; exact hc),hn,hpc]
theorem next_rest {M : DM} {now : Int} {q : NQ} {t : TK} {p : PF} {c : Int} (ho : nextOpen M now q = .ok (t,p)) (hpc : proofCode M.skew now M.proofs p = 0) (hr : nextRest { M with proofs := nearP M.skew now M.proofs ++ [p] } now q t = .error c) : nextM M now q = (refusalBox now c,{ M with proofs := nearP M.skew now M.proofs ++ [p] }) := by
 have hn : proofsNext M.skew now M.proofs p = nearP M.skew now M.proofs ++ [p] := by unfold proofsNext; rw [if_pos hpc]
 unfold nextM
 rw [ho]
 simp only
 rw [if_neg (by rw [hpc]; simp),hn,hr]
 rfl
theorem first_grant {M : DM} {now : Int} {q : FQ} {x s : BE} (hx : BE.find M.book q.client = some x) (hs : BE.find M.book q.service = some s) (hpair : pairCode (some x) (some s) now 6 7 1 2 = 0) (hf : firstCode M.skew now q x s = 0) (hd : 24 ≤ M.draws.length) :
  finishM M now (firstM M now q) = (giveBox 11 { firstTK now q x s with session := drawAt M.draws 0 } s q.nonce x.number x.key 3 (drawAt M.draws 1) (drawAt M.draws 2),{ M with draws := M.draws.drop 24 }) := by
 have hr : firstM M now q = .ok ⟨11,firstTK now q x s,s,q.nonce,x.number,x.key,3⟩ := by
  unfold firstM
  simp only [hx,hs,hpair,hf,ne_eq,not_true_eq_false,if_false]
 rw [hr]
 unfold finishM
 simp only
 rw [if_neg (by omega)]
 rfl
abbrev nTgs : List UInt8 := [116,103,115]
abbrev nAl : List UInt8 := [97,108]
abbrev nWeb : List UInt8 := [119,101,98]
abbrev kB (nm : List UInt8) (key : UInt64) (l : Int) : BE := ⟨nm,1,key,0,l,3 * l,0,30⟩
abbrev hBook (a b c : Int) : List BE := [kB nAl 1000002 b,kB nTgs 1000001 a,kB nWeb 1000003 c]
end Go.Proofs.YtbanfbpfapjfcaaGreatDoor
namespace Go.Proofs.YtbanfbpfapjfcaaGreatDoor
open Go.RowKit
set_option maxRecDepth 100000
def FR (lo hi : Nat) (w w' : World) : Prop := CF w w' (fun b _ => lo ≤ b ∧ b < hi)
theorem FR.gb {lo hi : Nat} {w w' : World} (k : w.grownBy w' none) : FR lo hi w w' := CF.of_gb k _
theorem FR.refl (lo hi : Nat) (w : World) : FR lo hi w w := FR.gb (World.grownBy.refl w none)
theorem FR.trans {lo hi : Nat} {a b c : World} (h : FR lo hi a b) (k : FR lo hi b c) : FR lo hi a c := CF.trans h k (fun _ _ _ e => e)
theorem FR.drew {lo hi : Nat} {a b : World} (h : FR lo hi a b) : FR lo hi a b.drew := CF.drew h
theorem FR.alloc {lo hi : Nat} {a b : World} (h : FR lo hi a b) (o : Obj) : FR lo hi a (b.alloc o) := CF.alloc h o
theorem FR.size {lo hi : Nat} {a b : World} (h : FR lo hi a b) : a.heap.size ≤ b.heap.size := CF.size h
theorem Blk.fr {lo hi g : Nat} {w w' : World} {cs : Array Value} (h : Blk w g cs) (k : FR lo hi w w') (hg : g < lo ∨ hi ≤ g) : Blk w' g cs := h.kept (CF.block k g h.lt (fun _ e => by omega))
theorem FR.below {lo hi n : Nat} {w0 w w' : World} (h : Below n w0 w) (k : FR lo hi w w') (hn : n ≤ lo) (hs : n ≤ w.heap.size) : Below n w0 w' := h.trans (CF.below k hs (fun b _ hb e => by omega))
def KX (lo hi : Nat) (w : World) (v : Value) (zs : List UInt8) : Prop := KH w v zs ∧ ∀ b off n c,v = .slice (some ⟨b,off,none⟩) n c → b < lo ∨ hi ≤ b
theorem KX.fr {lo hi : Nat} {w w' : World} {v : Value} {zs : List UInt8} (h : KX lo hi w v zs) (k : FR lo hi w w') : KX lo hi w' v zs := by
 obtain ⟨ao,cap,hv⟩ := h.1.shape
 subst hv
 refine ⟨KH.cfK h.1 k (fun b off e ⟨o,ho⟩ => ?_),h.2⟩
 have := h.2 b off _ _ (by rw [e])
 omega
theorem KX.cf {lo hi : Nat} {w w' : World} {ex : Nat → Nat → Prop} {v : Value} {zs : List UInt8} (h : KX lo hi w v zs) (k : CF w w' ex) (hx : ∀ b off n c,v = .slice (some ⟨b,off,none⟩) n c → ∀ o,¬ ex b o) : KX lo hi w' v zs := by
 obtain ⟨ao,cap,hv⟩ := h.1.shape
 subst hv
 exact ⟨KH.cfK h.1 k (fun b off e ⟨o,ho⟩ => hx b off _ _ (by rw [e]) o ho),h.2⟩
theorem Blk.cfo {w w' : World} {ex : Nat → Nat → Prop} {g : Nat} {cs : Array Value} (h : Blk w g cs) (k : CF w w' ex) (hx : ∀ o,¬ ex g o) : Blk w' g cs := h.kept (k.block g h.lt hx)
theorem KMade.place {n : Nat} {w : World} {o : Value} {z : List UInt8} (h : KMade n w o z) (b off m c : Nat) (e : o = .slice (some ⟨b,off,none⟩) m c) : n ≤ b ∧ b < w.heap.size := by
 rcases h.2 with ⟨hv,_⟩ | ⟨g,cap,cur,hv,hb,hg,_⟩
 ·rw [hv] at e; cases e
 ·rw [hv] at e
  injection e with e1 e2 e3
  injection e1 with e1
  injection e1 with e1
  subst e1
  exact ⟨hb,(Array.getElem?_eq_some_iff.1 hg).1⟩
theorem KX.out {lo hi n : Nat} {w : World} {v : Value} {p : Option Pl} {zs : List UInt8} (h : Out w v p zs) (hf : Pl.fresh n p) (hn : hi ≤ n) : KX lo hi w v zs := by
 refine ⟨KH.out h,fun b off m c e => ?_⟩
 rcases h with ⟨_,hv,_⟩ | ⟨q,hq,hv,_⟩
 ·rw [hv] at e; cases e
 ·rw [hv] at e
  injection e with e1 e2 e3
  injection e1 with e1
  injection e1 with e1
  have := hf q hq
  omega
theorem KX.made {lo hi n : Nat} {w : World} {v : Value} {zs : List UInt8} (h : KMade n w v zs) (hn : hi ≤ n) : KX lo hi w v zs := by
 obtain ⟨p,ho,hf⟩ := Out.own h
 exact KX.out ho hf hn
theorem KMade.base {n n' : Nat} {w : World} {o : Value} {z : List UInt8} (h : KMade n w o z) (hb : n' ≤ n) : KMade n' w o z := own_base h hb
def KS (q : Bool) (lo hi : Nat) (w : World) (g : Nat) (M : DM) : Prop := lo ≤ g ∧ g < hi ∧ ∃ dp,DeskIs q w g dp M ∧ ∀ p,dp = some p → p.g ≠ g ∧ lo ≤ p.g ∧ p.g < hi
theorem KS.gb {q : Bool} {lo hi g : Nat} {w w' : World} {M : DM} (h : KS q lo hi w g M) (k : w.grownBy w' none) : KS q lo hi w' g M := by
 obtain ⟨h1,h2,dp,h3,h4⟩ := h
 exact ⟨h1,h2,dp,h3.grown k,h4⟩
theorem KS.cf {q : Bool} {lo hi g : Nat} {w w' : World} {M : DM} {ex : Nat → Nat → Prop} (h : KS q lo hi w g M) (k : CF w w' ex) (hx : ∀ b y,ex b y → b < lo ∨ hi ≤ b) : KS q lo hi w' g M := by
 obtain ⟨h1,h2,dp,h3,h4⟩ := h
 refine ⟨h1,h2,dp,h3.cf k (fun y e => ?_) (fun p hp y e => ?_),h4⟩
 ·have := hx _ _ e; omega
 ·have := hx _ _ e; have := h4 p hp; omega
structure MOk (M : DM) : Prop where
 ins : ∀ e ∈ M.book,e.In
 sorted : M.book.Pairwise (fun x y => Op.bytesLess x.name y.name = true)
 skew : In64 M.skew
 times : ∀ y ∈ M.proofs,In64 y.time
theorem kans_any (q : Bool) (lo hi g : Nat) (M M' : DM) (now : Int) (req rep : List UInt8) (v : Value) (w : World) (hA : answerM M now req = (rep,M')) (hS : KS q lo hi w g M) (hM : MOk M) (hv : KX lo hi w v req) (hl : req.length ≤ 300) (hr : rep.length ≤ 900) (hnow : In64 now) (hhi : hi ≤ w.heap.size) :
  Calls Tryz.prog 17 #[.agg (deskV q g),.int .i64 now,v] w fun e w' => ∃ a c,e = .returned (.slice a rep.length c) ∧ KX lo hi w' (.slice a rep.length c) rep ∧ KS q lo hi w' g M' ∧ FR lo hi w w' := by
 obtain ⟨h1,h2,dp,h3,h4⟩ := hS
 obtain ⟨⟨ao,cap,hv1,hv2,hv3,hv4,hv5⟩,hx⟩ := hv
 subst hv1
 have hb : Bs (ao,req) (.slice ao req.length cap) req := ⟨ao,cap,rfl,hv2,hv3,by omega,fun _ h => h⟩
 have hao : ∀ b off,ao = some ⟨b,off,none⟩ → b ≠ g := fun b off e e2 => by have := hx b off _ _ (by rw [e]); omega
 have key : ∀ (e : Ending) (w' : World),(∃ v',e = .returned v' ∧ KFin q w w' g dp v' (answerM M now req)) → ∃ a c,e = .returned (.slice a rep.length c) ∧ KX lo hi w' (.slice a rep.length c) rep ∧ KS q lo hi w' g M' ∧ FR lo hi w w' := by
  rintro e w' ⟨v',rfl,F⟩
  rw [hA] at F
  obtain ⟨a,c,hs⟩ := F.shape
  subst hs
  obtain ⟨p',o1,o2⟩ := F.out
  obtain ⟨dp',d1,d2⟩ := F.desk
  refine ⟨a,c,rfl,KX.out o1 o2 hhi,⟨h1,h2,dp',d1,fun p hp => ?_⟩,F.cf.mono (fun b _ _ e => by omega)⟩
  obtain ⟨q',hq',e⟩ := d2 p hp
  have := h4 q' hq'
  omega
 cases q with
 | false => exact (kanswer_plain g dp M now req req.length ao cap w h3 (fun q hq => (h4 q hq).1) hM.ins hM.sorted (hid rfl) hv5 hb hnow hM.skew hM.times).mono key
 | true => exact (kanswer_quick g dp M now req req.length ao cap w h3 (fun q hq => (h4 q hq).1) hM.ins hM.sorted (hid rfl) hv5 hao hb hnow hM.skew hM.times (by rw [hA]; exact hr)).mono key
theorem kadm_any (q : Bool) (lo hi g n : Nat) (M : DM) (es : List BE) (r : Int) (a : Adm) (w : World) (hA : admB M.book a = (es,r)) (hS : KS q lo hi w g M) (hok : BookOk n M.book) (hn : n ≤ 4611686018427387904) (hf0 : -9223372036854775808 ≤ a.flags) (hf1 : a.flags ≤ 9223372036854775807) (hl : a.name.length ≤ 9223372036854775807) (hk : (a.kind == 0) = false) :
  Calls Tryz.prog 25 #[.agg (deskV q g),.agg a.cells] w fun e w' => e = .returned (.int .i64 r) ∧ KS q lo hi w' g { M with book := es } ∧ FR lo hi w w' := by
 obtain ⟨h1,h2,dp,h3,h4⟩ := hS
 cases q with
 | false =>
  refine (kadmin_plain g dp M n a w h3 (fun q hq => (h4 q hq).1) hok hn hf0 hf1 hl).mono ?_
  rintro e w' ⟨rfl,d,c⟩
  rw [hA] at d ⊢
  exact ⟨rfl,⟨h1,h2,dp,d,h4⟩,c.mono (fun b _ _ e => by omega)⟩
 | true =>
  refine (kadmin_quick g dp M n a w h3 (fun q hq => (h4 q hq).1) hok hn hf0 hf1 hl hk).mono ?_
  rintro e w' ⟨rfl,d,c⟩
  rw [hA] at d ⊢
  exact ⟨rfl,⟨h1,h2,dp,d,h4⟩,c.mono (fun b _ _ e => by omega)⟩
theorem desk2 (q : Bool) (g : Nat) : ∃ p0 p1,deskV q g = #[.pointer p0,.pointer p1] := by cases q <;> exact ⟨_,_,rfl⟩
end Go.Proofs.YtbanfbpfapjfcaaGreatDoor
namespace Go.Proofs.YtbanfbpfapjfcaaGreatDoor
open Go.RowKit
set_option maxRecDepth 100000
theorem code0 (sk now : Int) (q : FQ) (x s : BE) (hp : preCode sk now x q.pre = 0) (ho : q.opts = 0) (hf : ¬ satAdd now sk < q.sFrom) (he : ¬ firstEnd now q x s ≤ firstStart now q) : firstCode sk now q x s = 0 := by
 unfold firstCode
 rw [if_neg (by rw [hp]; simp),if_neg (by rw [ho]; omega),if_neg (by rw [ho]; exact fun h => absurd h.1 (by decide)),if_neg (by exact fun h => hf h.2),if_neg he]
theorem sat_id {x : Int} (h : In64 x) : sat x = x := by
 unfold sat
 rw [if_neg (by have := h.1; omega),if_neg (by have := h.2; omega)]
theorem satAdd_id {a b : Int} (h : In64 (a + b)) : satAdd a b = a + b := sat_id h
theorem apart_le {a b : Int} (h : In64 (b - a)) (hab : a ≤ b) : apartT a b = b - a := by
 unfold apartT
 split
 ·exact sat_id h
 ·have : a = b := by omega
  subst this
  unfold satSub
  rw [sat_id (by constructor <;> omega)]
theorem lesser_le {a b : Int} (h : a ≤ b) : lesser a b = a := by
 unfold lesser
 split
 ·rfl
 ·omega
theorem lesser_ge {a b : Int} (h : b ≤ a) : lesser a b = b := by
 unfold lesser
 split
 ·omega
 ·rfl
abbrev oT (k : UInt64) : TK := ⟨32,k,nAl,1000,1000,6000,0⟩
abbrev eT : BE := kB nTgs 1000001 5000
abbrev eA : BE := kB nAl 1000002 5000
abbrev eW : BE := kB nWeb 1000003 5000
abbrev bO : List BE := hBook 5000 5000 5000
theorem i64a (n : Int) (h : decide (-9223372036854775808 ≤ n ∧ n ≤ 9223372036854775807) = true) : In64 n := (of_decide_eq_true h : -9223372036854775808 ≤ n ∧ n ≤ 9223372036854775807)
theorem len_al : nAl.length ≤ 3 := by decide
theorem name_al : isNameL nAl = true := by decide
theorem oT_in (k : UInt64) : (oT k).In := ⟨i64a 32 rfl,i64a 1000 rfl,i64a 1000 rfl,i64a 6000 rfl,i64a 0 rfl⟩
theorem once_first (sk : Int) (pf : List PF) (ds : List UInt8) (h0 : 0 ≤ sk) (h1 : sk ≤ 300) (hd : 24 ≤ ds.length) :
  answerM ⟨sk,bO,pf,ds⟩ 1000 (firstReq nAl nTgs 1 0 0 0 0) = (giveBox 11 (oT (drawAt ds 0)) eT 1 1 1000002 3 (drawAt ds 1) (drawAt ds 2),⟨sk,bO,pf,ds.drop 24⟩) := by
 rw [ans_first _ _ nAl nTgs 1 0 0 0 0 (by decide) (by decide) ⟨by decide,by decide⟩ ⟨by decide,by decide⟩ ⟨by decide,by decide⟩ ⟨by decide,by decide⟩ ⟨by decide,by decide⟩]
 rw [first_grant (x := eA) (s := eT) rfl rfl rfl (code0 sk 1000 _ eA eT rfl rfl (by rw [satAdd_id (by constructor <;> omega)]; show ¬ _ < (0 : Int); omega) (by decide)) hd]
 rfl
theorem once_open (sk : Int) (pf : List PF) (ds : List UInt8) (k a cnt : UInt64) (now : Int) (h2 : In64 (cnt.toNat : Int)) (h3 : 1000 ≤ now) (h4 : now ≤ 2000) :
  nextOpen ⟨sk,bO,pf,ds⟩ now (nq (oT k) eT a cnt 1000 nWeb 2 0 0) = if sk < now - 1000 then .error 37 else .ok (oT k,⟨nAl,1000,cnt.toNat⟩) := by
 rw [next_open ⟨sk,bO,pf,ds⟩ now (oT k) eT eT a cnt 1000 nWeb 2 0 0 len_al name_al (oT_in k) rfl rfl rfl ⟨by decide,by decide⟩ h2,apart_le (by constructor <;> omega) h3]
theorem once_ans (sk : Int) (pf : List PF) (ds : List UInt8) (k a cnt : UInt64) (now : Int) : answerM ⟨sk,bO,pf,ds⟩ now (nextReq (ticketBox (oT k) eT a) (sealedProof (oT k) cnt 1000) nWeb 2 0 0) = nextM ⟨sk,bO,pf,ds⟩ now (nq (oT k) eT a cnt 1000 nWeb 2 0 0) :=
 ans_next ⟨sk,bO,pf,ds⟩ now (oT k) eT a cnt 1000 nWeb 2 0 0 len_al (by decide) (by decide) ⟨by decide,by decide⟩ (by decide) ⟨by decide,by decide⟩ ⟨by decide,by decide⟩ ⟨by decide,by decide⟩
theorem once_late (sk : Int) (pf : List PF) (ds : List UInt8) (k a cnt : UInt64) (now : Int) (h2 : In64 (cnt.toNat : Int)) (h3 : 1000 ≤ now) (h4 : now ≤ 2000) (h : sk < now - 1000) :
  answerM ⟨sk,bO,pf,ds⟩ now (nextReq (ticketBox (oT k) eT a) (sealedProof (oT k) cnt 1000) nWeb 2 0 0) = (refusalBox now 37,⟨sk,bO,pf,ds⟩) := by
 rw [once_ans]
 exact next_refuse (by rw [once_open sk pf ds k a cnt now h2 h3 h4,if_pos h])
theorem once_again (sk : Int) (ds : List UInt8) (k a cnt : UInt64) (now : Int) (h2 : In64 (cnt.toNat : Int)) (h3 : 1000 ≤ now) (h4 : now ≤ 2000) (h : ¬ sk < now - 1000) :
  answerM ⟨sk,bO,[⟨nAl,1000,cnt.toNat⟩],ds⟩ now (nextReq (ticketBox (oT k) eT a) (sealedProof (oT k) cnt 1000) nWeb 2 0 0) = (refusalBox now 34,⟨sk,bO,[⟨nAl,1000,cnt.toNat⟩],ds⟩) := by
 have hn : nearP sk now [⟨nAl,1000,cnt.toNat⟩] = [⟨nAl,1000,cnt.toNat⟩] := by
  unfold nearP
  rw [List.filter_cons_of_pos (by simp only [decide_eq_true_eq]; rw [apart_le (by constructor <;> omega) h3]; omega)]
  rfl
 rw [once_ans,next_taken (c := 34) (by rw [once_open sk _ ds k a cnt now h2 h3 h4,if_neg h]) (by unfold proofCode; rw [hn,if_pos (List.mem_cons_self ..)]) (by decide)]
 simp only [hn]
theorem once_grant (sk : Int) (pf : List PF) (ds : List UInt8) (k a cnt : UInt64) (now : Int) (h2 : In64 (cnt.toNat : Int)) (h3 : 1000 ≤ now) (h4 : now ≤ 2000) (h0 : 0 ≤ sk) (h1 : sk ≤ 300) (h : ¬ sk < now - 1000) (hn : nearP sk now pf = pf) (hp : ⟨nAl,1000,cnt.toNat⟩ ∉ pf) (hl : pf.length < 8) (hd : 24 ≤ ds.length) :
  answerM ⟨sk,bO,pf,ds⟩ now (nextReq (ticketBox (oT k) eT a) (sealedProof (oT k) cnt 1000) nWeb 2 0 0) = (giveBox 13 ⟨0,drawAt ds 0,nAl,1000,now,6000,0⟩ eW 2 0 k 5 (drawAt ds 1) (drawAt ds 2),⟨sk,bO,pf ++ [⟨nAl,1000,cnt.toNat⟩],ds.drop 24⟩) := by
 have he : derivedEnd now 0 (oT k) eA eW = 6000 := by
  unfold derivedEnd
  rw [satAdd_id (a := now) (b := eA.life) ⟨by show _ ≤ now + 5000; omega,by show now + 5000 ≤ _; omega⟩   ,show lesser (asked 0) (oT k).fin = 6000 from rfl,lesser_le (a := now + eA.life) (b := now + eA.life) (Int.le_refl _)]
  exact lesser_le (by show (6000 : Int) ≤ now + 5000; omega)
 have hf : fresh now (oT k) eA eW 0 0 0 = .ok ⟨0,k,nAl,1000,now,6000,0⟩ := by
  unfold fresh
  rw [if_neg (by decide),if_neg (by decide),he,if_neg (by omega)]
  rfl
 rw [once_ans,next_grant (t' := ⟨0,k,nAl,1000,now,6000,0⟩) (s := eW) (x := eA) (by rw [once_open sk pf ds k a cnt now h2 h3 h4,if_neg h]) (by unfold proofCode; rw [hn,if_neg hp,if_neg (by omega)]) (by
   rintro (h | h)
   ·exact absurd h.1 (show ¬ bitB 32 16 = true by decide)
   ·rw [satAdd_id (a := now) (b := sk) ⟨by omega,by omega⟩] at h
    have : now + sk < 1000 := h
    omega) (by show ¬ (6000 : Int) < now; omega) rfl rfl rfl rfl hf hd]
 simp only [hn]
theorem near_one (sk now : Int) (n : Int) (h3 : 1000 ≤ now) (h4 : now ≤ 2000) (h : ¬ sk < now - 1000) : nearP sk now [⟨nAl,1000,n⟩] = [⟨nAl,1000,n⟩] := by
 unfold nearP
 rw [List.filter_cons_of_pos (by simp only [decide_eq_true_eq]; rw [apart_le (by constructor <;> omega) h3]; omega)]
 rfl
end Go.Proofs.YtbanfbpfapjfcaaGreatDoor
